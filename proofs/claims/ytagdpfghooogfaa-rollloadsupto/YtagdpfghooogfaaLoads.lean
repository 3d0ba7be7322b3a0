import Derived.Test.YtagdpfghooogfaaLoadG
import Derived.Test.YtagdpfghooogfaaShown
namespace Go.Proofs.Ytagdpfghooogfaa
open Go.RowKit
set_option linter.unusedVariables false

theorem ListsW.below {w w' : World} {s : Value} {ls : List (List UInt8)} (h : ListsW w s ls) (hw : Below w.heap.size w w') : ListsW w' s ls := by
  obtain ⟨ao, c, e, hx⟩ := h
  refine ⟨ao, c, e, fun j hj => ?_⟩
  obtain ⟨g, o, v, h1, h2, h3, h4⟩ := hx j hj
  refine ⟨g, o, v, h1, Nat.lt_of_lt_of_le h2 hw.size, ?_, h4.below hw⟩
  rw [← h3]
  simp only [World.cell?, hw.block g h2]

set_option maxHeartbeats 3200000 in
set_option maxRecDepth 1000000 in
theorem loads_walk {w : World} {s : Value} {ls : List (List UInt8)} (hs : ListsW w s ls) (hlen : ls.length ≤ 1048576) (hlens : ∀ l ∈ ls, l.length ≤ 1048576) : Calls Try.prog 4 #[s] w fun e w' => e = .returned (.bool true) ∧ Below w.heap.size w w' := by
  have HS := hid hs
  have HT : Hid (∀ w', All [inC w] w' → ListsW w' s ls) := hid (fun w' h => HS.out.below (h.into (by simp)))
  have HL := hid (And.intro hlen hlens)
  obtain ⟨so, sc, rfl⟩ := hs.form
  obtain ⟨n, hn⟩ : ∃ n, Hid (n = ls.length) := ⟨_, hid rfl⟩
  rw [← hn.out] at HT ⊢
  clear hs hlen hlens HS
  go_enter Try.func4, Try.ntmps4
  go_wp2_with fail
  refine (shown_all (All.came w)).mono ?_
  rintro e w1 ⟨rfl, A1⟩
  have C1 := hid (load20_any A1 HT.out HL.out.1 HL.out.2)
  clear A1 HT HL
  go_wp2_with fail
  refine C1.out.mono ?_
  clear C1
  rintro e w2 (⟨rfl, A2⟩ | ⟨g, h, ps, qs, rfl, H2⟩)
  · go_wp2
    go_ret
    exact ⟨rfl, A2.into (by simp)⟩
  have HTW := hid H2.out.1
  have A3 : Hid (All (rollL g ps ++ (xrollL h qs ++ (bookC w2.heap.size nilS [] nilS [] ++ [inC w]))) (w2.alloc (.cells #[nilS, nilS] 34))) := hid (by
    have h1 := ((H2.out.2.addNil (e := 40)).addNil (e := 35)).addBlk [nilS, nilS] 34
    refine h1.perm ?_
    have := perm_by 4 [bookC w2.heap.size nilS [] nilS [], rollL g ps, xrollL h qs, [inC w]] [1, 2, 0, 3] rfl (by decide)
    simpa [List.getD, bookC] using this)
  clear H2
  go_wp2_with fail
  generalize w2.alloc (.cells #[nilS, nilS] 34) = w3 at A3 ⊢
  generalize w2.heap.size = b at A3 ⊢
  go_loopw [8] (fun cv wr => Box (∃ (c : Int) (vi vt : Value) (is ts : List Value) (cs : List Comp), cv = .int .i64 c ∧ -1 ≤ c ∧ c ≤ 9 ∧ (is.length : Int) = 2 * (c + 1) ∧ (ts.length : Int) = 2 * (c + 1) ∧ Hid (All (rollL g ps ++ (xrollL h qs ++ (bookC b vi is vt ts ++ cs))) wr ∧ inC w ∈ cs))) (fun cv _ => (9 - intOf cv).toNat)
  case atStart => exact ⟨⟨-1, nilS, nilS, [], [], [inC w], rfl, by omega, by omega, by simp, by simp, hid ⟨A3.out, by simp⟩⟩⟩
  case round =>
    obtain ⟨c, vi, vt, is, ts, cs, rfl, hc1, hc2, his, hts, HI⟩ := hrel.out
    clear hrel A3
    by_cases hlt : c < 9
    case neg =>
      have el : decide (c < 9) = false := by simpa using hlt
      go_wp2
      go_ret
      exact ⟨rfl, HI.out.1.into (by simp [HI.out.2])⟩
    have el : decide (c < 9) = true := by simpa using hlt
    have HIN := hid HI.out.2
    have C1 := hid (klast_any HTW.out HI.out.1 (by omega) c)
    clear HI
    go_wp2_with fail
    refine C1.out.mono ?_
    clear C1
    rintro e w4 ⟨rfl, vi', x1, l1, y1, l2, H4⟩
    have C2 := hid (kbytes_any HTW.out H4.out (by omega) c)
    clear H4
    go_wp2_with fail
    refine C2.out.mono ?_
    clear C2
    rintro e w5 ⟨rfl, vt', x2, m1, y2, m2, H5⟩
    go_wp2
    go_roundw
    case rel => exact ⟨⟨c + 1, vi', vt', is ++ [x1, y1], ts ++ [x2, y2], _, by go_num, by omega, by omega, by simp; omega, by simp; omega, hid ⟨H5.out, by simp [HIN.out]⟩⟩⟩
    case measure => simp [intOf]; omega

end Go.Proofs.Ytagdpfghooogfaa

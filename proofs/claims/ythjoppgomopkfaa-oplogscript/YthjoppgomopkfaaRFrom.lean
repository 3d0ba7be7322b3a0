import Derived.Test.YthjoppgomopkfaaRefA
import Derived.Test.YthjoppgomopkfaaFrom
namespace Go.Proofs.Ythjoppgomopkfaa
open Go.RowKit
set_option linter.unusedVariables false

set_option maxHeartbeats 1600000 in
set_option maxRecDepth 1000000 in
theorem rFrom_any {p n b : Nat} {v : Value} {l : List Ent} {cs : List Comp} {w : World} (hA : All (refP p n b v l ++ cs) w) (ht : b + l.length ≤ 1099511627776) (hl : l.length ≤ 64) (k ms : Int) : Calls Try.prog 30 #[.pointer (some ⟨p, 0, none⟩), .int .i64 k, .int .i64 ms] w fun e w' => ∃ v', e = .returned v' ∧ All (entC v' (fromL b l k ms) :: (refP p n b v l ++ cs)) w' := by
  obtain ⟨ao, c, rfl, hc⟩ := owns7_form hA.refRow
  have H1 := hid (rhas_any hA.ref ht k)
  have HA := hid hA
  clear hA
  by_cases hk : (b : Int) < k ∧ k ≤ ((b + l.length : Nat) : Int)
  case neg =>
    rw [decide_eq_false hk] at H1
    have e : fromL b l k ms = [] := by unfold fromL; rw [if_neg (by intro h; exact hk ⟨h.1, h.2.1⟩)]
    rw [e]
    clear hk e
    go_enter Try.func30, Try.ntmps30
    go_wp2_with fail
    refine H1.out.mono ?_
    rintro e w1 ⟨rfl, hb⟩
    have A1 := hid (HA.out.later hb)
    go_wp2
    go_ret
    exact ⟨_, rfl, A1.out.addRow0⟩
  rw [decide_eq_true hk] at H1
  obtain ⟨o, rfl⟩ : ∃ o : Nat, k = (o : Int) := ⟨k.toNat, by omega⟩
  have h1 : b < o := by omega
  have h2 : o ≤ b + l.length := by omega
  obtain ⟨j, hj⟩ : ∃ j, j = o - b - 1 := ⟨_, rfl⟩
  have EF : Hid (fromL b l o ms = (l.drop j).take ms.toNat) := hid (by
    unfold fromL
    rw [hj]
    by_cases h : 1 ≤ ms
    · rw [if_pos ⟨by omega, by omega, h⟩, Int.toNat_natCast]
    · rw [if_neg (by omega), show ms.toNat = 0 by omega, List.take_zero])
  have HO := hid (fun W (A : All (refP p n b (.slice ao l.length c) l ++ cs) W) => rOp_any A.ref ht)
  generalize hq : b + l.length = q at *
  go_enter Try.func30, Try.ntmps30
  go_wp2_with fail
  refine H1.out.mono ?_
  rintro e w1 ⟨rfl, hb⟩
  have A1 := hid ((HA.out.later hb).addRow0 (e := 39) (size := 7))
  clear H1 HA hb hk
  go_wp2_with fail
  go_loopw [7, 8] (fun ov kv wr => ∃ (i : Nat), o + i ≤ q + 1 ∧ (i : Int) ≤ max ms 0 ∧ kv = .int .i64 ((o + i : Nat) : Int) ∧ Hid (All (entC ov ((l.drop j).take i) :: (refP p n b (.slice ao l.length c) l ++ cs)) wr)) (fun _ kv _ => q + 1 - (intOf kv).toNat)
  case atStart => exact ⟨0, by omega, by omega, rfl, by rw [List.take_zero]; exact A1⟩
  case round =>
    clear A1
    obtain ⟨i, hi, him, rfl, A1⟩ := hrel
    have G := hid (HO.out _ A1.out.tail)
    have hil : ((l.drop j).take i).length = i := by rw [List.length_take, List.length_drop]; omega
    obtain ⟨oa, oc, rfl, _⟩ := owns7_form A1.out.1.2.1
    rw [hil] at A1 ⊢
    have hi64 : i ≤ 64 := by omega
    generalize hr : o + i = r at *
    by_cases hlt : r ≤ q
    · have m1 : decide ((r : Int) ≤ (q : Int)) = true := decide_eq_true (by omega)
      have m2 : (r : Int) ≤ (q : Int) := by omega
      by_cases him2 : (i : Int) < ms
      · have m3 : decide ((i : Int) < ms) = true := decide_eq_true him2
        obtain ⟨x, hx⟩ : ∃ x, l[j + i]? = some x := ⟨_, List.getElem?_eq_getElem (by omega)⟩
        have HT : Hid ((l.drop j).take (i + 1) = (l.drop j).take i ++ [x]) := hid (by rw [List.take_add_one, List.getElem?_drop, hx]; rfl)
        have hw1 : IntKind.i64.wrap ((r : Int) - (b : Int)) = (r : Int) - (b : Int) := by simp [IntKind.wrap, IntKind.bits, IntKind.signed]; omega
        have hw2 : IntKind.i64.wrap ((r : Int) - (b : Int) - 1) = ((j + i : Nat) : Int) := by simp [IntKind.wrap, IntKind.bits, IntKind.signed]; omega
        have hw3 : IntKind.i64.wrap (IntKind.i64.wrap ((r : Int) - (b : Int)) - 1) = ((j + i : Nat) : Int) := by rw [hw1, hw2]
        generalize hs : j + i = s at *
        have hsl : (s : Int) < (l.length : Int) := by omega
        have HRR := hid hr
        have hi1' := hid (show o + (i + 1) ≤ q + 1 from by omega)
        have hi2' := hid (show ((i + 1 : Nat) : Int) ≤ max ms 0 from by omega)
        go_wp2_with fail
        refine G.out.mono ?_
        rintro e w2 ⟨rfl, hb⟩
        have A2 := hid (A1.out.later hb)
        obtain ⟨g, rfl, hg, hrx⟩ := owns7 A2.out.tail.refRow hx
        obtain ⟨y1, y2, y3, y4, y5, y6, y7⟩ := entAt_of hrx
        have d1 := A2.out.tail.ref.c1
        have d2 := A2.out.tail.ref.c2
        obtain ⟨i0, hi0, hz0, hz1, hz2⟩ := info_parts Try.info39
        have A4 := hid ((A2.out.drew).alloc (.cells #[.int .i64 x.c, .int .i64 x.n, .int .i64 x.k, .string x.nm, .string x.tx, .int .i64 x.m, .int .i64 x.q] 39))
        have hrow : (w2.drew.alloc (.cells #[.int .i64 x.c, .int .i64 x.n, .int .i64 x.k, .string x.nm, .string x.tx, .int .i64 x.m, .int .i64 x.q] 39)).ownsRow 0 39 7 (.slice oa i oc) i (flatE ((l.drop j).take i)) := by
          have h : (w2.drew.alloc (.cells #[.int .i64 x.c, .int .i64 x.n, .int .i64 x.k, .string x.nm, .string x.tx, .int .i64 x.m, .int .i64 x.q] 39)).ownsRow 0 39 7 (.slice oa i oc) ((l.drop j).take i).length (flatE ((l.drop j).take i)) := A4.out.1.2.1
          rw [hil] at h
          exact h
        have hnews : ∀ j u, x.cells[j]? = some u → (w2.drew.alloc (.cells #[.int .i64 x.c, .int .i64 x.n, .int .i64 x.k, .string x.nm, .string x.tx, .int .i64 x.m, .int .i64 x.q] 39)).cell? ((⟨w2.drew.heap.size, 0, none⟩ : Addr).add j) = some u := fun j u hu => by
          rw [Addr.add_lit, Nat.zero_add, cell_at (heap_alloc_new w2.drew _)]
          exact (List.getElem?_toArray (xs := x.cells) ..).trans hu
        have FIN : Hid (∀ ao' cap' w7, w7.ownsRow 0 39 7 (.slice ao' (i + 1) cap') (i + 1) (flatE ((l.drop j).take i) ++ x.cells) → (w2.drew.alloc (.cells #[.int .i64 x.c, .int .i64 x.n, .int .i64 x.k, .string x.nm, .string x.tx, .int .i64 x.m, .int .i64 x.q] 39)).grownBy w7 (Value.slice oa i oc).ownBlock → ((Value.slice ao' (i + 1) cap').ownBlock = (Value.slice oa i oc).ownBlock ∨ (Value.slice ao' (i + 1) cap').ownBlock = some (w2.drew.alloc (.cells #[.int .i64 x.c, .int .i64 x.n, .int .i64 x.k, .string x.nm, .string x.tx, .int .i64 x.m, .int .i64 x.q] 39)).heap.size) → Hid (All (entC (.slice ao' (i + 1) cap') ((l.drop j).take (i + 1)) :: (refP p n b (.slice (some ⟨g, 0, none⟩) l.length c) l ++ cs)) w7)) := hid (fun ao' cap' w7 h1 h2 h3 => hid (by
          rw [HT.out]
          exact A4.out.rowGrow (vs' := flatE ((l.drop j).take i ++ [x])) (n' := ((l.drop j).take i ++ [x]).length) (by rw [flatE_snoc, List.length_append, hil]; exact h1) h2 h3))
        have hone := x.one
        clear A1 A2 A4 G hb hrx hx hw1 hw2 hs hr HO h1 h2 hj hq hl him hi
        go_upto_region 7 with fail
        go_region_law (first | (refine step_append_own2 (by rfl) (.tmp 26) (.tmp 40) 40 (by rfl) 0 39 i0 (.agg Ent.zero.cells.toArray) 7 72 Try.underlying40 hi0 hz0 hz1 hz2 rfl (by decide) _ i (flatE ((l.drop j).take i)) (by rfl) hrow _ 1 1 x.cells (by rfl) (by rfl) hnews hone (by unfold maxLen; omega) (by omega) (by omega) ?_; intro ao' cap' w7 ho7 hg7 hat7; have HF := FIN.out _ _ _ ho7 hg7 hat7; clear ho7 hg7 hat7))
        all_goals clear FIN hrow hnews hone y1 y2 y3 y4 y5 y6 y7 d1 d2
        all_goals
          go_wp2
          go_roundw
          case rel => exact ⟨i + 1, hi1'.out, hi2'.out, by have := HRR.out; go_num, HF⟩
          case measure => simp [intOf]; omega
      · have m3 : decide ((i : Int) < ms) = false := decide_eq_false him2
        have HE : Hid ((l.drop j).take i = (l.drop j).take ms.toNat) := hid (by rw [show i = ms.toNat by omega])
        go_wp2_with fail
        refine G.out.mono ?_
        rintro e w2 ⟨rfl, hb⟩
        have A2 := hid (A1.out.later hb)
        go_wp2
        go_ret
        refine ⟨.slice oa i oc, rfl, ?_⟩
        rw [EF.out, ← HE.out]
        exact A2.out
    · have m1 : decide ((r : Int) ≤ (q : Int)) = false := decide_eq_false (by omega)
      have m2 : ¬ (r : Int) ≤ (q : Int) := by omega
      have HE : Hid ((l.drop j).take i = (l.drop j).take ms.toNat) := hid (by
        rw [List.take_of_length_le (i := i) (by rw [List.length_drop]; omega), List.take_of_length_le (i := ms.toNat) (by rw [List.length_drop]; omega)])
      go_wp2_with fail
      refine G.out.mono ?_
      rintro e w2 ⟨rfl, hb⟩
      have A2 := hid (A1.out.later hb)
      go_wp2
      go_ret
      refine ⟨.slice oa i oc, rfl, ?_⟩
      rw [EF.out, ← HE.out]
      exact A2.out
end Go.Proofs.Ythjoppgomopkfaa

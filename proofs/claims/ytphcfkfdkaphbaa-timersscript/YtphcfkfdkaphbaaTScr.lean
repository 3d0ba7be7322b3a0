import Derived.Test.YtphcfkfdkaphbaaTActN
import Derived.Test.YtphcfkfdkaphbaaTStand
namespace Go.Proofs.Ytphcfkfdkaphbaa
open Go.RowKit
set_option linter.unusedVariables false

theorem All.addOwn1 {cs : List Comp} {w : World} (h : All cs w) (e : TypeId) (u : Value) : All (ownC e (.slice (some ⟨w.heap.size, 0, none⟩) 1 1) [u] :: cs) (w.alloc (.cells #[u] e)) := by
  refine h.addOwn (ba w _) ?_
  exact ⟨rfl, Or.inr ⟨w.heap.size, 1, #[u], rfl, Nat.le_refl _, heap_alloc_new w _, Nat.le_refl _, by unfold maxLen; omega, rfl, rfl⟩⟩
def qs : ByteArray := ⟨#[113]⟩
theorem qs_size : qs.size ≤ maxLen := by unfold maxLen qs; decide
theorem armE_q : armSE (.map []) qs 1 = 0 := by
  unfold armSE
  rw [if_neg (by omega), if_neg (by intro h; have := h.2; simp [Maps.size] at this)]
theorem armC_q : CpS (armSD (.map []) qs 1) [⟨qs, 0, 1⟩] := by
  have h := CpS.new CpS.start ⟨_, rfl⟩ (s := qs) (m := 1) qs_size (by simp) (by omega) (by omega)
  unfold armSD
  rw [if_neg (by omega), if_neg (by intro h; have := h.2; simp [Maps.size] at this)]
  exact h

set_option maxHeartbeats 3200000 in
set_option maxRecDepth 1000000 in
theorem script_walk {w : World} {sv : Value} {acts : List Ac} (hs : ActsAt w sv acts) (hnm : ∀ x ∈ acts, x.name.size ≤ maxLen) (hlen : acts.length ≤ 2932031007317) : Calls Try.prog 3 #[sv] w fun e w' => e = .returned (.bool true) ∧ Below w.heap.size w w' := by
  obtain ⟨ao, cp, rfl⟩ := hs.form
  have HS := hid hs
  have HNM := hid hnm
  clear hs hnm
  go_enter Try.func3, Try.ntmps3
  go_wp2_with fail
  refine (NewS (All.came w)).mono ?_
  rintro e w1 ⟨P, b, rfl, A1⟩
  obtain ⟨D, hD⟩ : ∃ D, Hid (D = w1.heap.size + 1 + 1 + 1) := ⟨_, hid rfl⟩
  have A2 : Hid (All (deskL D (.slice (some ⟨w1.heap.size, 0, none⟩) 1 1) (.slice (some ⟨w1.heap.size + 1 + 1, 0, none⟩) 1 1) (.slice none 0 0) [⟨P, b, w1.heap.size + 1, .map [], .slice none 0 0, []⟩] [] ++ [inC w]) ((((w1.alloc (.cells #[.pointer (some ⟨P, 0, none⟩)] 24)).alloc (.cells #[.slice none 0 0] 30)).alloc (.cells #[.pointer (some ⟨w1.heap.size + 1, 0, none⟩)] 27)).alloc (.cells #[.slice (some ⟨w1.heap.size, 0, none⟩) 1 1, .slice (some ⟨w1.heap.size + 1 + 1, 0, none⟩) 1 1, .slice none 0 0] 34))) := hid (by
    have B := ((((A1.addRow0 (e := 96) (size := 2)).addOwn1 24 (.pointer (some ⟨P, 0, none⟩))).addRef0).addOwn1 27 (.pointer (some ⟨w1.heap.size + 1, 0, none⟩))).addBlk [.slice (some ⟨w1.heap.size, 0, none⟩) 1 1, .slice (some ⟨w1.heap.size + 1 + 1, 0, none⟩) 1 1, .slice none 0 0] 34
    simp only [World.size_alloc] at B
    rw [hD.out]
    refine B.perm ?_
    have := perm_by 7 [[blkC (w1.heap.size + 1 + 1 + 1) [.slice (some ⟨w1.heap.size, 0, none⟩) 1 1, .slice (some ⟨w1.heap.size + 1 + 1, 0, none⟩) 1 1, .slice none 0 0] 34], [ownC 27 (.slice (some ⟨w1.heap.size + 1 + 1, 0, none⟩) 1 1) [.pointer (some ⟨w1.heap.size + 1, 0, none⟩)]], [refC (w1.heap.size + 1) (.slice none 0 0) []], [ownC 24 (.slice (some ⟨w1.heap.size, 0, none⟩) 1 1) [.pointer (some ⟨P, 0, none⟩)]], [rowC 96 2 (.slice none 0 0) 0 []], [tabS P b 0 (.map [])], [inC w]] [0, 3, 1, 4, 5, 2, 6] rfl (by decide)
    exact this)
  clear A1
  go_upto_region 2 with fail
  rw [← hD.out]
  generalize ((((w1.alloc (.cells #[.pointer (some ⟨P, 0, none⟩)] 24)).alloc (.cells #[.slice none 0 0] 30)).alloc (.cells #[.pointer (some ⟨w1.heap.size + 1, 0, none⟩)] 27)).alloc (.cells #[.slice (some ⟨w1.heap.size, 0, none⟩) 1 1, .slice (some ⟨w1.heap.size + 1 + 1, 0, none⟩) 1 1, .slice none 0 0] 34)) = w2 at A2 ⊢
  clear hD
  generalize w1.heap.size + 1 + 1 = rb at *
  generalize w1.heap.size + 1 = R at *
  generalize w1.heap.size = ra at *
  have hT0 : ([⟨P, b, R, .map [], .slice none 0 0, []⟩] : List Tq)[0]? = some ⟨P, b, R, .map [], .slice none 0 0, []⟩ := rfl
  have A3 := hid (desk_out hT0 A2.out)
  have SS : Hid (∀ (X : List Comp) W, All (X ++ (hdL D (.slice (some ⟨ra, 0, none⟩) 1 1) (.slice (some ⟨rb, 0, none⟩) 1 1) (.slice none 0 0) (pA [⟨P, b, R, .map [], .slice none 0 0, []⟩]) (pB [⟨P, b, R, .map [], .slice none 0 0, []⟩]) [] ++ (OT [⟨P, b, R, .map [], .slice none 0 0, []⟩] 0 ++ [inC w]))) W → W.cell? ⟨D, 0, none⟩ = some (.slice (some ⟨ra, 0, none⟩) 1 1) ∧ W.cell? ⟨ra, 0, none⟩ = some (.pointer (some ⟨P, 0, none⟩))) := hid (fun X W hW => by
    obtain ⟨a1, a2, a3, a4⟩ := hd_reads hT0 rfl hW
    exact ⟨a1, a3⟩)
  obtain ⟨c0, pa⟩ := SS.out [_, _] _ A3.out
  clear A2
  go_wp2_with fail
  refine (ArmSP A3.out (by simp [Maps.size]) qs qs_size 1).mono ?_
  rintro e w3 ⟨rfl, A4⟩
  rw [armE_q]
  have A4 := hid A4
  clear A3 c0 pa
  obtain ⟨c0, pa⟩ := SS.out [_, _] _ A4.out
  go_wp2_with fail
  refine (TickSP A4.out armC_q (by simp)).mono ?_
  rintro e w4 ⟨lv, D4, rfl, C4, A5⟩
  have hg1 : goneT [⟨qs, 0, 1⟩] = [⟨qs, 0, 1⟩] := rfl
  have hg2 : stayT [⟨qs, 0, 1⟩] = [] := rfl
  rw [hg1] at A5
  rw [hg2] at C4
  obtain ⟨a1, k1, rfl⟩ := owns_form (show w4.ownsRow 0 9 1 lv 1 _ from A5.1.2.1)
  have A6 : Hid (DeskI D 1 0 [inC w] w4) := hid ⟨_, _, _, [⟨P, b, R, D4, .slice none 0 0, []⟩], [], by simp, ⟨fun t ht => by rw [List.mem_singleton.1 ht]; exact ⟨C4, by simp⟩, by simp, by simp, by simp, fun x hx => by cases hx⟩, desk_in (t' := ⟨P, b, R, D4, .slice none 0 0, []⟩) hT0 rfl rfl A5.tail⟩
  clear A4 A5 C4 hg1 hg2 c0 pa SS hT0
  go_wp2_with fail
  go_loopw [43] (fun iv wr => ∃ (i : Nat), i ≤ acts.length ∧ iv = .int .i64 (i : Int) ∧ Hid (DeskI D 1 i [inC w] wr)) (fun iv _ => acts.length - (intOf iv).toNat)
  case atStart => exact ⟨0, by omega, rfl, A6⟩
  case round =>
    clear A6
    obtain ⟨i, hi, rfl, HI⟩ := hrel
    by_cases hlt : i < acts.length
    · obtain ⟨x, hx⟩ : ∃ x, Hid (acts[i]? = some x) := ⟨_, hid (List.getElem?_eq_getElem hlt)⟩
      obtain ⟨va, vb, vm, T, M, hN1, hF, A1⟩ := HI.out
      have HB := hid (A1.into (w0 := w) (by simp))
      obtain ⟨ga, oa, rfl, y0, y1, y2, y3, y4⟩ := HS.out.at HB.out hx.out
      have l1 : decide ((i : Int) < (acts.length : Int)) = true := decide_eq_true (by omega)
      have l2 : (i : Int) < (acts.length : Int) := by omega
      have C12 : Hid (Calls Try.prog 12 #[.pointer (some ⟨D, 0, none⟩), .agg #[.int .i64 x.kind, .int .i64 x.at_, .string x.name, .int .i64 x.num, .int .i64 x.ticks], .int .i64 (i : Int)] (wr.alloc (.cells #[.int .i64 x.kind, .int .i64 x.at_, .string x.name, .int .i64 x.num, .int .i64 x.ticks] 40)) fun e w' => e = .returned (.bool true) ∧ DeskI D T.length (i + 1) [inC w] w') := hid (act_any (A1.alloc _) hF (HNM.out x (List.mem_of_getElem? hx.out)) (by omega))
      clear A1 HI hF hx
      go_wp2_with fail
      refine C12.out.mono ?_
      rintro e w5 ⟨rfl, va', vb', vm', T', M', h1, h2, h3⟩
      have HI' : Hid (DeskI D 1 (i + 1) [inC w] w5) := hid ⟨va', vb', vm', T', M', by omega, h2, h3⟩
      clear C12 h1 h2 h3 y0 y1 y2 y3 y4
      go_wp2_with fail
      go_roundw
      case rel => exact ⟨i + 1, by omega, by go_num, HI'⟩
      case measure => simp [intOf]; omega
    · have l1 : decide ((i : Int) < (acts.length : Int)) = false := decide_eq_false (by omega)
      have l2 : ¬ ((i : Int) < (acts.length : Int)) := by omega
      obtain ⟨va, vb, vm, T, M, hN1, hF, A1⟩ := HI.out
      have C13 := hid (dstands_any A1 hF (by omega))
      clear A1 hF HI
      go_wp2_with fail
      refine C13.out.mono ?_
      rintro e w5 ⟨rfl, A7⟩
      have HB := hid (A7.into (w0 := w) (by simp))
      clear A7 C13
      go_wp2
      go_ret
      exact ⟨rfl, HB.out⟩
end Go.Proofs.Ytphcfkfdkaphbaa

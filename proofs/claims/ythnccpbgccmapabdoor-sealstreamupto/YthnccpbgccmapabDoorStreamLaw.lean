import Derived.Test.YthnccpbgccmapabDoorPlay
import Derived.Test.YthnccpbgccmapabDoorRowLaw
namespace Go.Proofs.YthnccpbgccmapabDoor
open Go.RowKit
set_option linter.unusedVariables false
attribute [local go_sem ↓] Go.wp_at_zero Go.wp_at_succ

theorem lay_perm {A B : List Comp} {s b r k1 k2 i : Comp} : (s :: s :: b :: r :: k2 :: r :: k1 :: (B ++ (A ++ [i]))).Perm (A ++ (k1 :: r :: b :: s :: s :: (B ++ [k2, r, i]))) := by
  classical
  rw [List.perm_iff_count]
  intro a
  simp only [List.count_append, List.count_cons, List.count_nil]
  omega

theorem fin_none : fin [] = ([], 0, []) := rfl

theorem All.block {c : Comp} {cs : List Comp} {w : World} {o : Obj} (h : All cs w) (hg : c.Good) (hh : c.holds (w.alloc o)) (hf : c.fp = [w.heap.size]) : All (c :: cs) (w.alloc o) := by
  refine h.add (Fr.below (ba w _)) hg hh (fun k hk => ?_)
  rw [hf] at hk
  simp at hk
  subst hk
  exact ⟨Nat.le_refl _, by simp⟩

theorem All.nilRow {cs : List Comp} {w : World} (h : All cs w) : All (rowC (.slice none 0 0) [] :: cs) w :=
  h.addRow (Below.refl _ _) ⟨rfl, Or.inl ⟨rfl, rfl⟩⟩

theorem All.nilSl {cs : List Comp} {w : World} (h : All cs w) : All (slC (.slice none 0 0) [] :: cs) w := by
  refine h.add (Fr.below (Below.refl _ _)) (slC_good _ _) ⟨rfl, Or.inl ⟨rfl, rfl⟩⟩ (fun k hk => ?_)
  simp [slC, Value.ownBlock] at hk

theorem T2x.start {P1 P2 : Nat} {v1 : Sv} {w0 w : World} (hv1 : SvOk [] [] v1) (h : Str P2 [] [] 0 (strC P1 [] [] 0 v1 ++ [inC w0]) w) :
    T2x P1 w.heap.size P2 (w.heap.size + 1) (w.heap.size + 2) [] 0 [] 0 [] true w0 (((w.alloc (.cells #[.slice none 0 0, .int .i64 0] 28)).alloc (.cells #[.slice none 0 0, .int .i64 0] 28)).alloc (.cells #[.slice none 0 0, .slice none 0 0] 31)) := by
  obtain ⟨v2, hv2, hA⟩ := h
  have h1 := (hA.block (o := .cells #[.slice none 0 0, .int .i64 0] 28) (bookC_good w.heap.size (.slice none 0 0) 0) (heap_alloc_new w _) rfl).nilRow
  have h2 := (h1.block (o := .cells #[.slice none 0 0, .int .i64 0] 28) (bookC_good (w.heap.size + 1) (.slice none 0 0) 0) (by have := heap_alloc_new (w.alloc (.cells #[.slice none 0 0, .int .i64 0] 28)) (.cells #[.slice none 0 0, .int .i64 0] 28); simpa [bookC] using this) (by simp [bookC])).nilRow
  have h3 := ((h2.block (o := .cells #[.slice none 0 0, .slice none 0 0] 31) (boxC_good (w.heap.size + 2) (.slice none 0 0) (.slice none 0 0)) (by have := heap_alloc_new ((w.alloc (.cells #[.slice none 0 0, .int .i64 0] 28)).alloc (.cells #[.slice none 0 0, .int .i64 0] 28)) (.cells #[.slice none 0 0, .slice none 0 0] 31); simpa [boxC] using this) (by simp [boxC])).nilSl).nilSl
  refine ⟨v2, .slice none 0 0, .slice none 0 0, .slice none 0 0, .slice none 0 0, ⟨⟨v1, hv1, ?_⟩, Nat.zero_le _, by simp, ⟨fun e he => (by cases he), fun _ e he => (by cases he), by simp⟩⟩, hv2, Nat.zero_le _, by simp⟩
  rw [fin_none]
  refine h3.perm ?_
  simp only [bsL, shelfL, othL, rows, fin_none, List.map_nil, List.flatMap_nil, List.nil_append, List.drop_nil, List.cons_append, List.append_assoc]
  exact lay_perm

set_option maxHeartbeats 12800000 in
set_option maxRecDepth 1000000 in
theorem sealStream_walk {w : World} {v0 : Value} {xs : List OpS} (hT : Tab w) (h0 : OpsAt w v0 xs) (hn : xs.length ≤ 1048576) (hr : remO xs 0 ≤ 1048576) :
    Calls Tryd.prog 3 #[v0] w fun e w' => e = .returned (.bool true) ∧ Below w.heap.size w w' := by
  obtain ⟨a0, c0, e0⟩ := h0.form
  subst e0
  have H0 := hid h0
  have HT := hid hT
  clear h0 hT
  go_enter Tryd.func3, Tryd.ntmps3
  go_wp2_with fail
  refine (shown_any HT.out).mono ?_
  rintro e w1 ⟨rfl, hb1⟩
  have A1 := hid ((All.came w).later hb1)
  clear hb1
  go_wp2_with fail
  refine (Str.new A1.out).mono ?_
  rintro e w2 ⟨P1, rfl, v1, hv1, hA2⟩
  have HV1 := hid hv1
  have A2 := hid hA2
  clear hv1 hA2 A1
  go_wp2_with fail
  refine (Str.new A2.out).mono ?_
  rintro e w3 ⟨P2, rfl, hs3⟩
  have S3 := hid (T2x.start HV1.out hs3)
  clear hs3 A2 HV1
  go_wp2
  have hD := (hid (rfl : w3.heap.size = w3.heap.size)); clear hD
  generalize w3.heap.size = D at *
  go_loopw [8] (fun iv wr => ∃ (i : Nat) (f1 : List UInt8) (t1 : Nat) (f2 : List UInt8) (t2 : Nat) (es : List En), iv = .int .i64 (i : Int) ∧ i ≤ xs.length ∧ es.length ≤ i ∧ f1.length + f2.length + remO xs i ≤ 1048576 ∧ Hid (T2x P1 D P2 (D + 1) (D + 2) f1 t1 f2 t2 es true w wr)) (fun iv _ => xs.length - (intOf iv).toNat)
  case atStart => exact ⟨0, [], 0, [], 0, [], rfl, by omega, by simp, by simpa using hr, S3⟩
  case round =>
    obtain ⟨i, f1, t1, f2, t2, es, rfl, hi, hes, hf, R⟩ := hrel
    clear S3
    by_cases hlt : i < xs.length
    · obtain ⟨x, hx⟩ : ∃ x, xs[i]? = some x := ⟨_, List.getElem?_eq_getElem hlt⟩
      obtain ⟨g, o, ha0, hc1, hc2, hc3, hrd⟩ := H0.out.at R.out.into hx
      subst ha0
      have hrem := remO_at hx
      obtain ⟨sec, kind, bv, b⟩ := x
      obtain ⟨xa, xc, hbv⟩ : ∃ xa xc, bv = .slice xa b.length xc := hrd.form
      subst hbv
      have HR := hid hrd
      simp only at hc1 hc2 hc3 hrem
      clear hrd hx
      cases sec
      · go_wp2_with fail
        refine (T2x.step R.out HT.out ⟨false, kind, _, b⟩ HR.out (by simp only; omega) (by omega)).mono ?_
        rintro e w4 ⟨rfl, f1', t1', es', hf', hes', R4⟩
        have R4 := hid R4
        clear hc1 hc2 hc3
        simp only at hf'
        go_wp2_with fail
        refine (T2x.holds R4.out).mono ?_
        rintro e w5 ⟨rfl, q, rfl⟩
        have R5 := hid (R4.out.drewN q)
        go_wp2
        go_roundw
        case rel => exact ⟨i + 1, f1', t1', f2, t2, es', by go_num, by omega, by omega, by omega, R5⟩
        case measure => simp [intOf]; omega
      · go_wp2_with fail
        refine (T2x.step R.out.swap HT.out ⟨true, kind, _, b⟩ HR.out (by simp only; omega) (by omega)).mono ?_
        rintro e w4 ⟨rfl, f2', t2', es', hf', hes', R4⟩
        have R4 := hid R4.swap
        clear hc1 hc2 hc3
        simp only at hf'
        go_wp2_with fail
        refine (T2x.holds R4.out).mono ?_
        rintro e w5 ⟨rfl, q, rfl⟩
        have R5 := hid (R4.out.drewN q)
        go_wp2
        go_roundw
        case rel => exact ⟨i + 1, f1, t1, f2', t2', es', by go_num, by omega, by omega, by omega, R5⟩
        case measure => simp [intOf]; omega
    · go_wp2_with fail
      refine (T2x.spoilT R.out (by omega)).mono ?_
      rintro e w4 ⟨rfl, es4, hl4, R4⟩
      have R4 := hid R4
      go_wp2_with fail
      refine (T2x.last R4.out (by omega)).mono ?_
      rintro e w5 ⟨rfl, t1', es5, hl5, R5⟩
      have R5 := hid R5
      go_wp2_with fail
      refine (T2x.last R5.out.swap (by omega)).mono ?_
      rintro e w6 ⟨rfl, t2', es6, hl6, R6⟩
      have R6 := hid R6
      go_wp2_with fail
      refine (T2x.spoilE R6.out).mono ?_
      rintro e w7 ⟨rfl, hb7⟩
      go_wp2
      go_ret
      exact ⟨rfl, hb7⟩
end Go.Proofs.YthnccpbgccmapabDoor

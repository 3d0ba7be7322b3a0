import Derived.Test.YthnccpbgccmapabDoorCut
namespace Go.Proofs.YthnccpbgccmapabDoor
open Go.RowKit
set_option linter.unusedVariables false

/-- A sum's bytes. -/
def sumB (s : Nat) : List UInt8 := [byteN s 0, byteN s 1, byteN s 2, byteN s 3]
theorem sumB_length (s : Nat) : (sumB s).length = 4 := rfl
def isSum (t : List UInt8) (s : Nat) : Bool := decide (t = sumB s)

theorem sumB_at (s k : Nat) (hk : k < 4) : (sumB s).getD k 0 = byteN s k := by
  have h4 : k = 0 ∨ k = 1 ∨ k = 2 ∨ k = 3 := by omega
  rcases h4 with rfl | rfl | rfl | rfl <;> rfl

theorem isSum_true {t : List UInt8} {s : Nat} (ht : t.length = 4) (h : ∀ k, k < 4 → t.getD k 0 = byteN s k) : isSum t s = true := by
  apply decide_eq_true
  apply List.ext_getElem?
  intro i
  by_cases hi : i < 4
  · have := h i hi
    rw [← sumB_at s i hi] at this
    rw [List.getD_eq_getElem?_getD, List.getD_eq_getElem?_getD, List.getElem?_eq_getElem (by omega), List.getElem?_eq_getElem (by rw [sumB_length]; exact hi)] at this
    rw [List.getElem?_eq_getElem (by omega), List.getElem?_eq_getElem (by rw [sumB_length]; exact hi)]
    simpa using this
  · rw [List.getElem?_eq_none (by omega), List.getElem?_eq_none (by rw [sumB_length]; omega)]

theorem isSum_false {t : List UInt8} {s k : Nat} (hk : k < 4) (h : t.getD k 0 ≠ byteN s k) : isSum t s = false := by
  apply decide_eq_false
  rintro rfl
  exact h (sumB_at s k hk)

theorem u8_ne {a b : UInt8} (h : ¬ a.toNat = b.toNat) : a ≠ b := fun e => h (by rw [e])
theorem u8_eq {a b : UInt8} (h : a.toNat = b.toNat) : a = b := UInt8.toNat_inj.1 h

set_option maxHeartbeats 1600000 in
set_option maxRecDepth 1000000 in
theorem isSigned_any {w : World} {s1 s2 : Value} {l t : List UInt8} (hT : Tab w) (h1 : Reads w s1 l) (h2 : Reads w s2 t) (ht : t.length = 4) (hlen : l.length ≤ 140737488355328) :
    Calls Tryd.prog 34 #[.agg #[s1, s2]] w fun e w' => e = .returned (.bool (isSum t (sumN l))) ∧ Below w.heap.size w w' := by
  obtain ⟨ao1, c1, hf1⟩ := h1.form
  obtain ⟨ao2, c2, hf2⟩ := h2.form
  subst hf1 hf2
  have B1 : Below w.heap.size w (w.alloc (.cells #[.slice ao1 l.length c1, .slice ao2 t.length c2] 62)) := (Below.refl _ _).alloc (Nat.le_refl _) _
  have T1 := hid (hT.below B1)
  have R1 := hid (h1.below B1)
  have R2 := hid (h2.below B1)
  have HB := hid B1
  clear h1 h2 hT B1
  rw [ht] at R2 T1 R1 HB ⊢
  go_enter Tryd.func34, Tryd.ntmps34
  go_wp2_with fail
  refine (Sum_any T1.out R1.out hlen).mono ?_
  rintro e w1 ⟨rfl, rfl⟩
  have hsl := sumN_lt l
  generalize hs : sumN l = s at *
  go_wp2
  go_loopw [12] (fun iv wr => ∃ (k : Nat), k ≤ 4 ∧ iv = .int .i64 (k : Int) ∧ Hid (∀ j, j < k → t.getD j 0 = byteN s j) ∧ (w.alloc (.cells #[.slice ao1 l.length c1, .slice ao2 4 c2] 62)) = wr) (fun iv _ => 4 - (intOf iv).toNat)
  case atStart => exact ⟨0, by omega, rfl, fun j hj => by omega, rfl⟩
  case round =>
    obtain ⟨k, hk, rfl, hall, rfl⟩ := hrel
    by_cases hlt : k < 4
    · obtain ⟨g, o, rfl, q1⟩ := R2.out.at_u8 k (by omega)
      have hx := hid (Eq.refl (t.getD k 0).toNat)
      have hxn : ∃ x, x = (t.getD k 0).toNat := ⟨_, rfl⟩
      obtain ⟨x, hxx⟩ := hxn
      have hyn : ∃ y, y = (byteN s k).toNat := ⟨_, rfl⟩
      obtain ⟨y, hyy⟩ := hyn
      rw [← hxx] at q1
      have HX := hid hxx
      have HY := hid hyy
      clear hxx hyy hx
      by_cases hxy : x = y
      · have hb : ((x : Int) != (y : Int)) = false := by simp [hxy]
        clear hxy
        have hxy := hid (show x = y by have : (x : Int) = (y : Int) := by simpa using hb
                                       omega)
        go_wp2_with fail
        refine (byteOf_any s k hsl hlt).mono ?_
        rintro e w1 ⟨rfl, rfl⟩
        rw [← HY.out]
        go_wp2
        go_roundw
        case rel => exact ⟨k + 1, by omega, by go_num, fun j hj => by
          by_cases hjk : j < k
          · exact hall.out j hjk
          · have : j = k := by omega
            subst this
            exact u8_eq (by rw [← HX.out, ← HY.out]; exact hxy.out), by trivial⟩
        case measure => simp [intOf]; omega
      · have hb : ((x : Int) != (y : Int)) = true := by simp; omega
        have hxy' := hid hxy
        clear hxy
        go_wp2_with fail
        refine (byteOf_any s k hsl hlt).mono ?_
        rintro e w1 ⟨rfl, rfl⟩
        rw [← HY.out]
        go_wp2
        go_ret
        refine ⟨?_, HB.out⟩
        have : isSum t s = false := isSum_false hlt (u8_ne (by rw [← HX.out, ← HY.out]; exact hxy'.out))
        rw [hs, this]; rfl
    · have hk4 : k = 4 := by omega
      subst hk4
      have hfin := hid (isSum_true (s := s) ht (hall.out))
      go_wp2
      go_ret
      exact ⟨by rw [hs, hfin.out]; rfl, HB.out⟩
end Go.Proofs.YthnccpbgccmapabDoor

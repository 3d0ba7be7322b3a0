import Derived.Test.YthnccpbgccmapabDoorQue
namespace Go.Proofs.YthnccpbgccmapabDoor
open Go.RowKit
set_option linter.unusedVariables false
attribute [local go_sem ↓] Go.wp_at_zero Go.wp_at_succ

theorem hold_made {w w1 : World} {P : Nat} {hv fv av v : Value} {s : Lk} {L : Nat} {X Y : List UInt8} {cs : List Comp} (h : All (stC P hv s fv L :: rowC av X :: cs) w) (hb : Below w.heap.size w w1) (ho : w1.ownsRow w.heap.size 5 1 v Y.length (cellsB Y)) : All (stC P hv s fv L :: rowC v Y :: cs) w1 := by
  have := h.addRow hb ho
  have p1 := this.perm (List.perm_middle (a := rowC av X) (l₁ := [rowC v Y, stC P hv s fv L]) (l₂ := cs))
  exact p1.tail.swap

set_option maxHeartbeats 3200000 in
set_option maxRecDepth 1000000 in
theorem hold_any {w : World} {P : Nat} {hv fv av : Value} {s : Lk} {L p : Nat} {X : List UInt8} {cs : List Comp} (h : All (stC P hv s fv L :: rowC av X :: cs) w) (hp : p ≤ X.length) (hl : X.length ≤ 140737488351300) :
    Calls Tryd.prog 30 #[.pointer (some ⟨P, 0, none⟩), av, .int .i64 (p : Int)] w fun e w' => e = .returned (.tuple #[]) ∧ ∃ hv', All (stC P hv' s fv L :: rowC hv' (X.drop p) :: cs) w' := by
  have hst : StB w P hv s fv L := h.1.2.1
  have hrow : w.ownsRow 0 5 1 av X.length (cellsB X) := h.2.2.1.2.1
  have c0 := hst.c0
  have f0 := hst.free 0
  have HA := hid h
  obtain ⟨ao, c, hf⟩ := owns_form hrow
  subst hf
  by_cases h0 : p = 0
  · subst h0
    have R := hid (h.st_turn (hst.set0 (.slice ao X.length c)) ((Fr.refl [P] w).set P 0 _ (by simp)))
    clear h hst hrow HA
    go_enter Tryd.func30, Tryd.ntmps30
    go_wp2
    go_end0
    exact ⟨rfl, _, by rw [List.drop_zero]; exact R.out⟩
  · obtain ⟨g, cap, hv2, hcap, _, _⟩ := owns_some hrow (by omega)
    simp only [Value.slice.injEq, true_and] at hv2
    obtain ⟨rfl, rfl⟩ := hv2
    have hs0 : Reads w (.slice (some ⟨g, p, none⟩) (X.length - p) (c - p)) (X.drop p) := by
      have hs := (Reads.of_owns hrow).sub p (X.length - p) (c - p) (by omega) (by omega)
      have e : (X.drop p).take (X.length - p) = X.drop p := List.take_of_length_le (by simp)
      rw [e, Nat.zero_add] at hs
      exact hs
    have hpp : (0 : Int) < (p : Int) := by omega
    obtain ⟨Y, hY⟩ : ∃ Y, Y = X.drop p := ⟨_, rfl⟩
    have hYl : Y.length ≤ 140737488351300 := by rw [hY]; simp; omega
    rw [← hY] at hs0
    have HY := hid hY
    by_cases hcp : c = p
    · have e1 : p = X.length := by omega
      have R0 := hid (show Reads w (.slice (some ⟨g, 0, none⟩) 0 0) Y from by
        rw [hY, e1]
        exact ⟨some ⟨g, 0, none⟩, 0, by simp, by simp, Or.inl ⟨by simp, fun h => by cases h⟩⟩)
      subst e1
      subst hcp
      clear hcap hp h hst hrow hs0 hY
      go_enter Tryd.func30, Tryd.ntmps30
      go_wp2_with fail
      refine (copied_any R0.out (by omega)).mono ?_
      rintro e w1 ⟨rfl, ho, hb⟩
      have A1 := hid (hold_made HA.out hb ho)
      have hst1 : StB w1 P hv s fv L := A1.out.1.2.1
      have c0' := hst1.c0
      have f0' := hst1.free 0
      have R := hid (A1.out.st_turn (hst1.set0 (.slice (some ⟨w.heap.size, 0, none⟩) Y.length Y.length)) ((Fr.refl [P] w1).set P 0 _ (by simp)))
      clear ho hb hst1 c0 f0 A1 HA R0
      go_wp2
      go_end0
      exact ⟨rfl, _, by rw [← HY.out]; exact R.out⟩
    · have R0 := hid hs0
      clear h hst hrow hs0 hY
      go_enter Tryd.func30, Tryd.ntmps30
      go_wp2_with fail
      refine (copied_any R0.out (by omega)).mono ?_
      rintro e w1 ⟨rfl, ho, hb⟩
      have A1 := hid (hold_made HA.out hb ho)
      have hst1 : StB w1 P hv s fv L := A1.out.1.2.1
      have c0' := hst1.c0
      have f0' := hst1.free 0
      have R := hid (A1.out.st_turn (hst1.set0 (.slice (some ⟨w.heap.size, 0, none⟩) Y.length Y.length)) ((Fr.refl [P] w1).set P 0 _ (by simp)))
      clear ho hb hst1 c0 f0 A1 HA R0
      go_wp2
      go_end0
      exact ⟨rfl, _, by rw [← HY.out]; exact R.out⟩
end Go.Proofs.YthnccpbgccmapabDoor

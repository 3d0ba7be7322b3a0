import Derived.Test.YtdhkdniddjnigaaGreatDoorPx9
namespace Go.Proofs.YtdhkdniddjnigaaGreatDoor
open Go.RowKit
set_option linter.unusedVariables false

set_option maxHeartbeats 3200000 in
set_option maxRecDepth 1000000 in
theorem tick_nn {P : Nat} {x : Px} {b m n1 n2 : Int} {cs : List Comp} {w : World} (h : All (pxL P x b m n1 n2 ++ cs) w) (hr : x.rq.okL) (hq : x.qu.okL) (h1 : 1 ≤ n1) (h2 : n1 ≤ m) (h3 : m ≤ 1024) (g1 : 1 ≤ n2) (g2 : n2 ≤ m) (N : Nat) (hN : x.n = (N : Int)) (hN7 : 1 ≤ N ∧ N ≤ 7) (hw : 0 ≤ x.who) (hw2 : x.who ≤ 7) (ha : 0 ≤ x.again) (ha2 : x.again ≤ 4611686018427387904) (dr : x.rq.due = false) (dq : x.qu.due = false) :
    Calls Tryz.prog 48 #[.pointer (some ⟨P, 0, none⟩)] w fun e w' => ∃ v, e = .returned v ∧ All (msC v (([] : List Ms)) :: (pxL P { x with rq := x.rq.tick n1, qu := x.qu.tick n2 } b m (x.rq.now n1 m) (x.qu.now n2 m) ++ cs)) w' := by
  have T33R : Hid (Calls Tryz.prog 77 #[.pointer (some ⟨P, 4, none⟩)] w fun e w' => e = .returned (.bool false) ∧ All (pxL P { x with rq := x.rq.tick n1 } b m (x.rq.now n1 m) n2 ++ cs) w') := hid (by have := tick33R h hr h1 h2 h3; rw [dr] at this; exact this)
  have T33Q : Hid (∀ W c, All (c :: (pxL P { x with rq := x.rq.tick n1 } b m (x.rq.now n1 m) n2 ++ cs)) W → Calls Tryz.prog 77 #[.pointer (some ⟨P, 13, none⟩)] W fun e w' => e = .returned (.bool false) ∧ All (c :: (pxL P { x with rq := x.rq.tick n1, qu := x.qu.tick n2 } b m (x.rq.now n1 m) (x.qu.now n2 m) ++ cs)) w') := hid (fun W c hW => by
    have := tick33Q (x := { x with rq := x.rq.tick n1 }) (cs := c :: cs) (hW.perm (List.perm_middle (l₁ := pxL P { x with rq := x.rq.tick n1 } b m (x.rq.now n1 m) n2)).symm) hq g1 g2 h3
    rw [show ({ x with rq := x.rq.tick n1 } : Px).qu.due = false from dq] at this
    refine this.mono ?_
    rintro e w' ⟨a1, a2⟩
    exact ⟨a1, a2.perm (List.perm_middle (l₁ := pxL P { x with rq := x.rq.tick n1, qu := x.qu.tick n2 } b m (x.rq.now n1 m) (x.qu.now n2 m)))⟩)
  have hN7 := hid hN7
  clear hr hq h1 h2 h3 g1 g2 hw hw2 ha ha2 dr dq
  clear h hN
  go_enter Tryz.func48, Tryz.ntmps48
  go_wp2_with fail
  refine T33R.out.mono ?_
  rintro e w1 ⟨rfl, hw1⟩
  have A2 : Hid (All (msC (.slice none 0 0) ([] : List Ms) :: (pxL P { x with rq := x.rq.tick n1 } b m (x.rq.now n1 m) n2 ++ cs)) w1) := hid hw1.addRow0
  clear hw1 T33R
  go_wp2_with fail
  refine (T33Q.out _ _ A2.out).mono ?_
  rintro e w3 ⟨rfl, hw3⟩
  have A3 := hid hw3
  clear hw3 A2
  go_wp2
  go_ret
  exact ⟨_, rfl, A3.out⟩
end Go.Proofs.YtdhkdniddjnigaaGreatDoor

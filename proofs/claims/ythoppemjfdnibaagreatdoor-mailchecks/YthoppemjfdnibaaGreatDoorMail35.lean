import Derived.Test.YthoppemjfdnibaaGreatDoorMail34ka
import Derived.Test.YthoppemjfdnibaaGreatDoorMail34kb
import Derived.Test.YthoppemjfdnibaaGreatDoorMail34kc
import Derived.Test.YthoppemjfdnibaaGreatDoorMail34kd
import Derived.Test.YthoppemjfdnibaaGreatDoorMail34ke
import Derived.Test.YthoppemjfdnibaaGreatDoorMail34kf
import Derived.Test.YthoppemjfdnibaaGreatDoorMail34kg
import Derived.Test.YthoppemjfdnibaaGreatDoorMail34kh
import Derived.Test.YthoppemjfdnibaaGreatDoorMail31
namespace Go.Proofs.YthoppemjfdnibaaGreatDoor
open Go.RowKit
set_option linter.unusedVariables false

theorem rext_any {w : World} (m : Ms) {k : Nat} (h : 1 ≤ k ∧ k ≤ 15) (hk : m.k = (k : Int)) : Calls Tryz.prog 40 #[m.V] w fun e w' => e = .returned (.bool (m.extB k)) ∧ Below w.heap.size w w' := by
  rcases k_cases h with rfl | rfl | rfl | rfl | rfl | rfl | rfl | rfl | rfl | rfl | rfl | rfl | rfl | rfl | rfl
  · exact rext_k1 m hk
  · exact rext_k2 m hk
  · exact rext_k3 m hk
  · exact rext_k4 m hk
  · exact rext_k5 m hk
  · exact rext_k6 m hk
  · exact rext_k7 m hk
  · exact rext_k8 m hk
  · exact rext_k9 m hk
  · exact rext_k10 m hk
  · exact rext_k11 m hk
  · exact rext_k12 m hk
  · exact rext_k13 m hk
  · exact rext_k14 m hk
  · exact rext_k15 m hk

set_option maxRecDepth 1000000 in
/-- The document's Check of any message: what the program's Check tells. -/
theorem docCheck_any {w : World} (n : Int) (m : Ms) {li : List ByteArray} {le lx : List Ent} {ls : List Sh} (hT : Tab w) (hl : Ml w m li le ls lx) :
    Calls Tryz.prog 16 #[.int .i64 n, m.V] w fun e w' => e = .returned (.int .i64 (chkM n m (fldE m.k.toNat m.h (m.may li le ls lx) m.nil))) ∧ Below w.heap.size w w' := by
  by_cases hf : n = 3 ∨ n = 5 ∨ n = 7
  rotate_left
  · have F : chkM n m (fldE m.k.toNat m.h (m.may li le ls lx) m.nil) = 1 := by unfold chkM; rw [if_pos hf]
    rw [F]
    have C35 : Hid (∀ W : World, Calls Tryz.prog 35 #[.int .i64 n] W fun e w' => e = .returned (.bool false) ∧ w' = W) := hid (fun W => by have := rfleet_any (w := W) n; rw [decide_eq_false hf] at this; exact this)
    have B0 := hid (ba w (.cells m.cells.toArray 34))
    clear hf F hT hl
    go_enter Tryz.func16, Tryz.ntmps16
    go_wp2_with fail
    refine (C35.out _).mono ?_
    rintro e w1 ⟨rfl, hw1⟩
    have B1 : Hid (Below w.heap.size w w1) := hid (by rw [hw1]; exact B0.out)
    clear hw1 C35
    go_wp2
    go_ret
    exact ⟨rfl, B1.out⟩
  by_cases hk : 1 ≤ m.k ∧ m.k ≤ 15
  rotate_left
  · have F : chkM n m (fldE m.k.toNat m.h (m.may li le ls lx) m.nil) = 110 := by unfold chkM; rw [if_neg (not_not_intro hf), if_pos hk]
    rw [F]
    have C35 : Hid (∀ W : World, Calls Tryz.prog 35 #[.int .i64 n] W fun e w' => e = .returned (.bool true) ∧ w' = W) := hid (fun W => by have := rfleet_any (w := W) n; rw [decide_eq_true hf] at this; exact this)
    have C36 : Hid (∀ W : World, Calls Tryz.prog 36 #[.int .i64 m.k, .int .i64 1, .int .i64 15] W fun e w' => e = .returned (.bool false) ∧ w' = W) := hid (fun W => by have := rwithin_b (w := W) m.k 1 15; rw [show inR m.k 1 15 = false from decide_eq_false hk] at this; exact this)
    have B0 := hid (ba w (.cells m.cells.toArray 34))
    have M0 := hid (MsAt.new w m)
    clear hf F hT hl hk
    go_enter Tryz.func16, Tryz.ntmps16
    go_wp2_with fail
    refine (C35.out _).mono ?_
    rintro e w1 ⟨rfl, hw1⟩
    have c0 : w1.cell? ⟨w.heap.size, 0, none⟩ = some (.int .i64 m.k) := by rw [hw1]; exact M0.out 0 _ rfl
    have B1 : Hid (Below w.heap.size w w1) := hid (by rw [hw1]; exact B0.out)
    clear hw1 C35
    go_wp2_with (go_at_call 36; refine (C36.out _).mono ?_; rintro e w' ⟨rfl, hw'⟩; subst w')
    go_ret
    exact ⟨rfl, B1.out⟩
  obtain ⟨k, hk2⟩ : ∃ k : Nat, m.k = (k : Int) := ⟨m.k.toNat, by omega⟩
  have hk1 : 1 ≤ k ∧ k ≤ 15 := by omega
  have e : chkM n m (fldE m.k.toNat m.h (m.may li le ls lx) m.nil) = rchk m k (endB n m.f (decide (m.k = 1 ∨ m.k = 14))) (endB n m.t (decide (m.k = 2 ∨ m.k = 3 ∨ m.k = 15))) (m.numB k) (m.bodB k li le ls lx) (m.extB k) := by
    have h2 : m.k.toNat = k := by omega
    unfold chkM rchk
    rw [if_neg (not_not_intro hf), if_neg (not_not_intro hk), h2, same_all m li le ls lx hk1 hk2]
    rfl
  rw [e]
  have hn4 : m.numB k = true → k = 4 → 1 ≤ m.n ∧ m.n ≤ 1099511627776 := fun h hk4 => by
    subst hk4
    have h1 : inR m.n 1 1099511627776 = true := by
      have h0 : (inR m.n 1 1099511627776 && (inR m.c 0 1099511627776 && (true && (true && true)))) = true := h
      cases h3 : inR m.n 1 1099511627776 with
      | true => rfl
      | false => rw [h3] at h0; cases h0
    exact of_decide_eq_true h1
  exact rcheckM n hf m hk1 hk2 _ _ _ (fun W _ => nums_any m hk1 hk2) (fun hnu W hW => body_any m hk1 (hT.below hW) (hl.later hW) hk2 (hn4 hnu)) (fun W _ => rext_any m hk1 hk2)
/-- The program's Check of any message. -/
theorem progCheck_any {w : World} (n : Int) (hn : -9223372036854775808 < n) (hn2 : n ≤ 9223372036854775807) (m : Ms) {li : List ByteArray} {le lx : List Ent} {ls : List Sh} (hT : Tab w) (hF : Fld w) (hl : Ml w m li le ls lx) :
    Calls Tryz.prog 15 #[.int .i64 n, m.V] w fun e w' => e = .returned (.int .i64 (chkM n m (fldE m.k.toNat m.h (m.may li le ls lx) m.nil))) ∧ Below w.heap.size w w' := by
  refine checkM_any n hn hn2 m _ (fun hk W b hW hM => ?_)
  exact fields34 (hT.below hW) (hF.below hW) hM (hl.later hW) (k := m.k.toNat) (by omega) (by omega)
end Go.Proofs.YthoppemjfdnibaaGreatDoor

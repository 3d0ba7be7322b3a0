import Derived.Test.YtkcepkehgkkkbaaGreatDoorXGet
namespace Go.Proofs.YtkcepkehgkkkbaaGreatDoor
open Go.RowKit
set_option linter.unusedVariables false

theorem fail_size (r : Rst) (e : Int) : (r.fail e).size ≤ r.size := by
  unfold Rst.fail
  split
  · exact Nat.le_refl _
  · simp [Rst.size]

/-- An op is read, by the program and by the document: the same. -/
theorem op_both (r : Rst) (B : List UInt8) (hp : r.size ≤ 140737488355328) (hB : B.length ≤ 140737488355328) : ∃ (k : Int) (nm tx : ByteArray) (n m : Int) (R : Rst), R.size ≤ r.size ∧
    (∀ {b : Nat} {D : Option Nat} {rv : Value} {cs : List Comp} {w : World}, All (rdC b D rv r :: cs) w → (∀ w', All cs w' → Tab w') → Calls Tryz.prog 12 #[.pointer (some ⟨b, 0, none⟩)] w fun e w' => e = .returned (gotV R k nm tx n m) ∧ ∃ rv', All (rdC b D rv' R :: cs) w') ∧
    (∀ {b : Nat} {v : Value} {cs : List Comp} {w : World}, All (xrC b v B r :: cs) w → Calls Tryz.prog 13 #[.pointer (some ⟨b, 0, none⟩)] w fun e w' => e = .returned (gotV R k nm tx n m) ∧ All (xrC b v B R :: cs) w') := by
  have h1 := numR_val r.rs 8 13
  have h2 := numR_le r.rs 8 13 (by omega)
  have hv : 0 ≤ r.numV 8 ∧ r.numV 8 ≤ 8 := ⟨h1.1, h2⟩
  have s0 := num_size r 8
  have s1 := txt_size (r.num 8) 16
  obtain hk | hk | hk | hk | hk | hk | hk | hk | hk : r.numV 8 = 0 ∨ r.numV 8 = 1 ∨ r.numV 8 = 2 ∨ r.numV 8 = 3 ∨ r.numV 8 = 4 ∨ r.numV 8 = 5 ∨ r.numV 8 = 6 ∨ r.numV 8 = 7 ∨ r.numV 8 = 8 := by omega
  · exact ⟨_, _, _, _, _, _, Nat.le_trans (fail_size _ _) s0, fun h ht => get0 h ht hp hk, fun h => xget0 h hB hk⟩
  · exact ⟨_, _, _, _, _, _, Nat.le_trans (fail_size _ _) (Nat.le_trans s1 s0), fun h ht => get1 h ht hp hk, fun h => xget1 h hB hk⟩
  · exact ⟨_, _, _, _, _, _, Nat.le_trans (fail_size _ _) (Nat.le_trans s1 s0), fun h ht => get2 h ht hp hk, fun h => xget2 h hB hk⟩
  · exact ⟨_, _, _, _, _, _, Nat.le_trans (fail_size _ _) (Nat.le_trans (txt_size _ _) (Nat.le_trans s1 s0)), fun h ht => get3 h ht hp hk, fun h => xget3 h hB hk⟩
  · exact ⟨_, _, _, _, _, _, Nat.le_trans (fail_size _ _) (Nat.le_trans (num_size _ _) (Nat.le_trans s1 s0)), fun h ht => get4 h ht hp hk, fun h => xget4 h hB hk⟩
  · exact ⟨_, _, _, _, _, _, Nat.le_trans (fail_size _ _) (Nat.le_trans (txt_size _ _) (Nat.le_trans s1 s0)), fun h ht => get5 h ht hp hk, fun h => xget5 h hB hk⟩
  · exact ⟨_, _, _, _, _, _, Nat.le_trans (fail_size _ _) (Nat.le_trans (num_size _ _) (Nat.le_trans (num_size _ _) (Nat.le_trans s1 s0))), fun h ht => get6 h ht hp hk, fun h => xget6 h hB hk⟩
  · exact ⟨_, _, _, _, _, _, Nat.le_trans (fail_size _ _) (Nat.le_trans s1 s0), fun h ht => get7 h ht hp hk, fun h => xget7 h hB hk⟩
  · exact ⟨_, _, _, _, _, _, Nat.le_trans (fail_size _ _) s0, fun h ht => get8 h ht hp hk, fun h => xget8 h hB hk⟩
end Go.Proofs.YtkcepkehgkkkbaaGreatDoor

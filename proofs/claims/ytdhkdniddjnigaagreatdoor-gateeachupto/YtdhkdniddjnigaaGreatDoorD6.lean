import Derived.Test.YtdhkdniddjnigaaGreatDoorD5
import Derived.Test.YtdhkdniddjnigaaGreatDoorRC3
namespace Go.Proofs.YtdhkdniddjnigaaGreatDoor
open Go.RowKit Go.Lib
set_option linter.unusedVariables false

def kN : Ws := wfN.map (·.1)
theorem kN_at {k : Nat} (h : k < 9) : kN.getD k [] = nmN k := by
  obtain rfl | rfl | rfl | rfl | rfl | rfl | rfl | rfl | rfl : k = 0 ∨ k = 1 ∨ k = 2 ∨ k = 3 ∨ k = 4 ∨ k = 5 ∨ k = 6 ∨ k = 7 ∨ k = 8 := by omega
  all_goals rfl
set_option maxRecDepth 1000000 in
theorem kinds_any {w : World} : Calls Tryz.prog 183 #[] w fun e w' => e = .returned (.slice (some ⟨w.heap.size, 0, none⟩) 9 9) ∧ w' = w.alloc (.cells (txW kN).toArray 9) := by
  have e1 : (txW kN).toArray = #[.string ⟨#[]⟩, .string ⟨#[109, 97, 107, 101]⟩, .string ⟨#[100, 114, 111, 112]⟩, .string ⟨#[112, 117, 115, 104]⟩, .string ⟨#[116, 114, 105, 109]⟩, .string ⟨#[116, 97, 107, 101]⟩, .string ⟨#[114, 101, 97, 100]⟩, .string ⟨#[99, 111, 117, 110, 116]⟩, .string ⟨#[108, 105, 115, 116]⟩] := rfl
  rw [e1]
  clear e1
  go_enter Tryz.func183, Tryz.ntmps183
  go_wp2
  go_ret
  exact ⟨rfl, rfl⟩
theorem rt_kinds (w : World) : Rt (w.alloc (.cells (txW kN).toArray 9)) (.slice (some ⟨w.heap.size, 0, none⟩) 9 9) kN := rt_own (own_new (All.came w) kN (by simp [kN, wfN]))
theorem rchkO_any {k : Int} {nm tx : List UInt8} {n m : Int} {w : World} : Calls Tryz.prog 114 #[opV k ⟨nm.toArray⟩ ⟨tx.toArray⟩ n m] w fun e w' => e = .returned (.int .i64 (chkO k nm tx n m)) ∧ Below w.heap.size w w' := by
  have := rcheck_any (w := w) k ⟨nm.toArray⟩ ⟨tx.toArray⟩ n m
  have e1 : (⟨nm.toArray⟩ : ByteArray).size = nm.length := by simp [ByteArray.size]
  have e2 : (⟨tx.toArray⟩ : ByteArray).size = tx.length := by simp [ByteArray.size]
  rw [e1, e2] at this
  exact this

end Go.Proofs.YtdhkdniddjnigaaGreatDoor

import Derived.Test.YteloaggebkbeeaaDoorJ1
import Derived.Test.YteloaggebkbeeaaDoorPure
namespace Go.Proofs.YteloaggebkbeeaaDoor
open Go.RowKit
set_option linter.unusedVariables false

theorem or_cell (m : Nat) : bits BinOp.or IntKind.u8 ((m : Int) % 256) 128 = ((UInt8.ofNat (m % 128 + 128)).toNat : Int) := by
  rw [u8_or _ _ (by omega) (by omega) (by omega) (by omega), toNat_of128, ← or128]
  congr 2

theorem low_cell (m : Nat) (h : m < 128) : ((m : Int) % 256) = ((UInt8.ofNat m).toNat : Int) := by
  rw [toNat_small m h]; omega

theorem rel_step {f m n : Nat} {pre : List UInt8} (hm : m < 128 ^ (f + 1)) (hlt : 128 ≤ m) (hpf : pre.length + f = 9) (he : pre ++ enc f m = enc 9 n) :
    ∃ f', f = f' + 1 ∧ m / 128 < 128 ^ (f' + 1) ∧ (pre ++ [UInt8.ofNat (m % 128 + 128)]).length + f' = 9 ∧ (pre ++ [UInt8.ofNat (m % 128 + 128)]) ++ enc f' (m / 128) = enc 9 n := by
  cases f with
  | zero => simp at hm; omega
  | succ f =>
    refine ⟨f, rfl, ?_, ?_, ?_⟩
    · rw [Nat.div_lt_iff_lt_mul (by omega)]; rw [Nat.pow_succ] at hm; exact hm
    · simp; omega
    · rw [← he, enc_step f m (by omega)]; simp

/-- What Num writes. -/
def numS (st : Option (List UInt8)) (n : Int) : Option (List UInt8) := if n < 0 then none else addS st (enc 9 n.toNat)

theorem fold_neg (n : Int) (h0 : n < 0) (h1 : -9223372036854775808 ≤ n) : bits BinOp.xor IntKind.u64 IntKind.u64.max (IntKind.u64.wrap (IntKind.u64.wrap n * 2)) = (foldN n : Int) := by
  have e0 : IntKind.u64.max = 18446744073709551615 := by decide
  rw [e0, IntKind.wrap_u64, IntKind.wrap_u64, u64_xor _ _ (by omega) (by omega) (by omega) (by omega)]
  have e1 : (18446744073709551615 : Int).toNat = 2 ^ 64 - 1 := by decide
  have e2 : (n % 18446744073709551616 * 2 % 18446744073709551616).toNat < 2 ^ 64 := by omega
  rw [e1, xor_ones _ e2]
  unfold foldN
  rw [if_pos h0]
  omega

theorem foldN_pos (n : Int) (h0 : 0 ≤ n) : n * 2 = (foldN n : Int) := by
  unfold foldN; rw [if_neg (by omega)]; omega

theorem foldN_lt (n : Int) (h1 : -9223372036854775808 ≤ n) (h2 : n < 9223372036854775808) : foldN n < 18446744073709551616 := by
  unfold foldN; split <;> omega

theorem ret_int {k : IntKind} {a b : Int} (h : a = b) : Ending.returned (.int k a) = .returned (.int k b) := by rw [h]

theorem WStep.apart {b : Nat} {w w' : World} {v v' s : Value} {l : List UInt8} (h : WStep b w v w' v') (hr : Reads w s l) (hs : ∀ k, s.ownBlock = some k → k ≠ b ∧ v.ownBlock ≠ some k) : ∀ k, s.ownBlock = some k → k ≠ b ∧ v'.ownBlock ≠ some k := by
  intro k hk
  refine ⟨(hs k hk).1, fun e => ?_⟩
  rcases h.own k e with e | e
  · exact (hs k hk).2 e
  · have := hr.block k hk; omega

end Go.Proofs.YteloaggebkbeeaaDoor

namespace Go.Proofs.YteloaggebkbeeaaDoor
open Go.RowKit
set_option linter.unusedVariables false

theorem Reads.ofString (w : World) (s : ByteArray) (cap : Nat) (fr : Nat × Nat) (hc : s.size ≤ cap) : Reads (w.alloc (.cells (bytesRow s cap) 5 fr)).drew (.slice (some ⟨w.heap.size, 0, none⟩) s.size cap) s.data.toList := by
  refine ⟨_, _, rfl, hc, Or.inr ⟨_, _, rfl, by show w.heap.size < (w.alloc _).heap.size; simp, ?_⟩⟩
  intro j u hu
  have hj : j < s.data.size := by
    have := (List.getElem?_eq_some_iff.1 hu).1
    simpa [cellsB] using this
  show (w.alloc _).cell? _ = _
  rw [cell_at (heap_alloc_new w _), Nat.zero_add, bytesRow_at s cap j hj]
  rw [← hu]
  simp only [cellsB, List.getElem?_map, Array.getElem?_toList, Array.getElem?_eq_getElem hj]
  rfl

/-- A slice that is owned: its shape. -/
theorem owns_form {w : World} {base : Nat} {e : TypeId} {size : Nat} {v : Value} {n : Nat} {xs : List Value} (h : w.ownsRow base e size v n xs) : ∃ ao cap, v = .slice ao n cap := by
  rcases h.2 with ⟨rfl, e⟩ | ⟨g, cap, _, rfl, _⟩
  · exact ⟨none, 0, by rw [e]⟩
  · exact ⟨_, cap, rfl⟩

end Go.Proofs.YteloaggebkbeeaaDoor

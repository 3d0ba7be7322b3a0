import Derived.Test.YteloaggebkbeeaaDoorRes
namespace Go.Proofs.YteloaggebkbeeaaDoor
open Go.RowKit
set_option linter.unusedVariables false

theorem numS_nat (st : Option (List UInt8)) (n : Nat) : numS st (n : Int) = addS st (enc 9 n) := by unfold numS; rw [if_neg (by omega)]; simp
/-- What texts are as bytes. -/
def textsB (l : List ByteArray) : List UInt8 := l.flatMap fun t => enc 9 t.size ++ t.data.toList
def itemsB (l : List ByteArray) : List UInt8 := enc 9 l.length ++ textsB l
theorem textsB_take {l : List ByteArray} {k : Nat} (hk : k < l.length) : textsB (l.take (k + 1)) = textsB (l.take k) ++ (enc 9 l[k].size ++ l[k].data.toList) := by
  rw [List.take_succ_eq_append_getElem hk, textsB, List.flatMap_append]; simp [textsB]

/-- All that is bounded: a list's texts, each with what stands ahead of it. -/
def bulkT (l : List ByteArray) : Nat := (l.map fun t => t.size + 10).sum
theorem bulkT_take {l : List ByteArray} {k : Nat} (hk : k < l.length) : (textsB (l.take k)).length + (l[k].size + 10) ≤ bulkT l := by
  induction l generalizing k with
  | nil => simp at hk
  | cons t l ih =>
    cases k with
    | zero => simp [textsB, bulkT]
    | succ k =>
      have := ih (k := k) (by simpa using hk)
      have he := enc_len 9 t.size
      simp only [List.take_succ_cons, textsB, List.flatMap_cons, List.length_append, bulkT, List.map_cons, List.sum_cons, List.getElem_cons_succ, ByteArray.size, Array.length_toList] at *
      omega

end Go.Proofs.YteloaggebkbeeaaDoor

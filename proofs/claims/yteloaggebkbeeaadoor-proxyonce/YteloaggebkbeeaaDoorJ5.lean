import Derived.Test.YteloaggebkbeeaaDoorRes
import Derived.Test.YteloaggebkbeeaaDoorJ3
namespace Go.Proofs.YteloaggebkbeeaaDoor
open Go.RowKit
set_option linter.unusedVariables false

theorem numS_nat (st : Option (List UInt8)) (n : Nat) : numS st (n : Int) = addS st (enc 9 n) := by unfold numS; rw [if_neg (by omega)]; simp
/-- What texts are as bytes. -/
def textsB (l : List ByteArray) : List UInt8 := l.flatMap fun t => enc 9 t.size ++ t.data.toList
def itemsB (l : List ByteArray) : List UInt8 := enc 9 l.length ++ textsB l
theorem textsB_take {l : List ByteArray} {k : Nat} (hk : k < l.length) : textsB (l.take (k + 1)) = textsB (l.take k) ++ (enc 9 l[k].size ++ l[k].data.toList) := by
  rw [List.take_succ_eq_append_getElem hk, textsB, List.flatMap_append]; simp [textsB]

/-- All that is bounded: a list's texts, each with what stands ahead of it. -/
def bulkT (l : List ByteArray) : Nat := (l.map fun t => t.size + 10).sum
theorem bulkT_take {l : List ByteArray} {k : Nat} (hk : k < l.length) : (textsB (l.take k)).length + (l[k].size + 10) ≤ bulkT l := by
  induction l generalizing k with
  | nil => simp at hk
  | cons t l ih =>
    cases k with
    | zero => simp [textsB, bulkT]
    | succ k =>
      have := ih (k := k) (by simpa using hk)
      have he := enc_len 9 t.size
      simp only [List.take_succ_cons, textsB, List.flatMap_cons, List.length_append, bulkT, List.map_cons, List.sum_cons, List.getElem_cons_succ, ByteArray.size, Array.length_toList] at *
      omega

end Go.Proofs.YteloaggebkbeeaaDoor

namespace Go.Proofs.YteloaggebkbeeaaDoor
open Go.RowKit
set_option linter.unusedVariables false

theorem mem2 {c d : Comp} {cs : List Comp} : d ∈ c :: d :: cs := List.mem_cons_of_mem _ List.mem_cons_self

theorem mem3 {a b c : Comp} {cs : List Comp} : c ∈ a :: b :: c :: cs := List.mem_cons_of_mem _ mem2
theorem str_len (nm : ByteArray) : nm.data.toList.length = nm.size := Array.length_toList
/-- What Check tells of a kind that may be. -/
def chkT (k : Nat) (s t n m : Int) : Int := chkR (formN.getD (k * 8) 0) (formN.getD (k * 8 + 1) 0) (formN.getD (k * 8 + 2) 0) (formN.getD (k * 8 + 3) 0) (formN.getD (k * 8 + 4) 0) (formN.getD (k * 8 + 5) 0) (formN.getD (k * 8 + 6) 0) (formN.getD (k * 8 + 7) 0) s t n m

theorem check_tab {w : World} (h : Tab w) (k : Nat) (h1 : 1 ≤ k) (h8 : k ≤ 8) (nm tx : ByteArray) (n m : Int) : Calls Tryd.prog 23 #[opV k nm tx n m] w fun e w' => e = .returned (.int .i64 (chkT k nm.size tx.size n m)) ∧ Below w.heap.size w w' :=
  check_row k h1 h8 nm tx n m _ _ _ _ _ _ _ _ (h.cell _ (by omega)) (h.cell _ (by omega)) (h.cell _ (by omega)) (h.cell _ (by omega)) (h.cell _ (by omega)) (h.cell _ (by omega)) (h.cell _ (by omega)) (h.cell _ (by omega)) h.lt

/-- What Check tells, of any op. -/
def chkA (k : Int) (s t n m : Int) : Int := if k < 1 ∨ 8 < k then 50 else chkT k.toNat s t n m
theorem chkA_in {k : Int} (h1 : 1 ≤ k) (h8 : k ≤ 8) (s t n m : Int) : chkA k s t n m = chkT k.toNat s t n m := by unfold chkA; rw [if_neg (by omega)]
theorem chkA_out {k : Int} (h : k < 1 ∨ 8 < k) (s t n m : Int) : chkA k s t n m = 50 := by unfold chkA; rw [if_pos h]

set_option maxRecDepth 1000000 in
theorem check_out {w : World} {k : Int} (h : k < 1 ∨ 8 < k) (nm tx : ByteArray) (n m : Int) : Calls Tryd.prog 23 #[opV k nm tx n m] w fun e w' => e = .returned (.int .i64 50) ∧ Below w.heap.size w w' := by
  by_cases h1 : k < 1
  · have e1 : decide (k < 1) = true := by simpa using h1
    clear h
    go_enter Tryd.func23, Tryd.ntmps23
    go_wp2
    go_ret
    exact ⟨rfl, ba _ _⟩
  · have e1 : decide (k < 1) = false := by simpa using h1
    have e2 : decide (8 < k) = true := by simp; omega
    clear h
    go_enter Tryd.func23, Tryd.ntmps23
    go_wp2
    go_ret
    exact ⟨rfl, ba _ _⟩
theorem check_any {w : World} (hT : Tab w) (k : Int) (nm tx : ByteArray) (n m : Int) : Calls Tryd.prog 23 #[opV k nm tx n m] w fun e w' => e = .returned (.int .i64 (chkA k nm.size tx.size n m)) ∧ Below w.heap.size w w' := by
  by_cases h : k < 1 ∨ 8 < k
  · rw [chkA_out h]
    exact check_out h nm tx n m
  · rw [chkA_in (by omega) (by omega)]
    have := check_tab hT k.toNat (by omega) (by omega) nm tx n m
    rw [show ((k.toNat : Nat) : Int) = k by omega] at this
    exact this
end Go.Proofs.YteloaggebkbeeaaDoor

/- strings.ContainsRune at this program: which number is which. -/
import Derived.Shelf.Strings.Runes
import Derived.Test.YteloaggebkbeeaaDoorProg
namespace Go.Proofs
open Go.Shelf
def Tryd.lays151_ren : Go.Shelf.Ren := ⟨fun | 151 => 88 | 152 => 94 | 137 => 98 | 119 => 99 | 224 => 100 | 225 => 101 | 217 => 102 | 266 => 103 | n => n, fun | 9 => 9 | 21 => 21 | 4 => 4 | 3 => 3 | 5 => 5 | 0 => 0 | 46 => 119 | n => n, fun | n => n⟩
theorem Tryd.lays151 : Go.Proofs.Lays.n151 Tryd.prog Tryd.lays151_ren := {
  mixed := by kernel_rfl
  f119 := Tryd.func99.trans (congrArg some (by kernel_rfl))
  f137 := Tryd.func98.trans (congrArg some (by kernel_rfl))
  f151 := Tryd.func88.trans (congrArg some (by kernel_rfl))
  f152 := Tryd.func94.trans (congrArg some (by kernel_rfl))
  f217 := Tryd.func102.trans (congrArg some (by kernel_rfl))
  f224 := Tryd.func100.trans (congrArg some (by kernel_rfl))
  f225 := Tryd.func101.trans (congrArg some (by kernel_rfl))
  f266 := Tryd.func103.trans (congrArg some (by kernel_rfl))
  t0 := Tryd.underlying0
  a0 := Tryd.isAgg0
  z0 := Tryd.sizeOf0
  v0 := Tryd.zeroValue0
  t3 := Tryd.underlying3
  a3 := Tryd.isAgg3
  z3 := Tryd.sizeOf3
  v3 := Tryd.zeroValue3
  t4 := Tryd.underlying4
  a4 := Tryd.isAgg4
  z4 := Tryd.sizeOf4
  v4 := Tryd.zeroValue4
  t5 := Tryd.underlying5
  a5 := Tryd.isAgg5
  z5 := Tryd.sizeOf5
  v5 := Tryd.zeroValue5
  t9 := Tryd.underlying9
  a9 := Tryd.isAgg9
  z9 := Tryd.sizeOf9
  v9 := Tryd.zeroValue9
  t21 := Tryd.underlying21
  a21 := Tryd.isAgg21
  z21 := Tryd.sizeOf21
  v21 := Tryd.zeroValue21
  t46 := Tryd.underlying119
  a46 := Tryd.isAgg119
  z46 := Tryd.sizeOf119
  v46 := Tryd.zeroValue119 }
end Go.Proofs

namespace Go.Proofs.YteloaggebkbeeaaDoor
open Go.RowKit Go.Lib
set_option linter.unusedVariables false

theorem contains_any (s : ByteArray) (r : Int) (w : World) (h0 : 0 ≤ r) (h1 : r < 128) : Calls Tryd.prog 88 #[.string s, .int .i32 r] w fun e w' => e = .returned (.bool (decide (0 ≤ Lib.indexByte s.data.toList r.toNat.toUInt8))) ∧ w' = w :=
  Any.strings_ContainsRune_ascii Tryd.lays151 s r w h0 h1
end Go.Proofs.YteloaggebkbeeaaDoor

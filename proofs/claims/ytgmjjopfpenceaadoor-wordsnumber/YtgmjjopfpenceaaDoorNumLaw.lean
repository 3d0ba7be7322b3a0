import Derived.Test.YtgmjjopfpenceaaDoorNum2
import Derived.Test.YtgmjjopfpenceaaDoorDig
namespace Go.Proofs.YtgmjjopfpenceaaDoor
open Go.RowKit
set_option linter.unusedVariables false

/-- n, or what n is folded to. -/
def foldZ (n : Int) : Nat := if n < 0 then (-(n + 1)).toNat else n.toNat

set_option maxHeartbeats 1600000 in
set_option maxRecDepth 1000000 in
theorem number_law {l : List UInt8} {n : Int} {w : World} (V : Vars w) (hl : l.length ≤ 140737488355328) (h0 : -9223372036854775808 ≤ n) (h1 : n ≤ 9223372036854775807) :
    Calls Tryd.prog 3 #[.string ⟨l.toArray⟩, .int .i64 n] w fun e w' => e = .returned (.bool true) ∧ Below w.heap.size w w' := by
  have C1 := hid (Number_any V hl)
  have C2 : Hid (∀ W, Calls Tryd.prog 7 #[.string ⟨l.toArray⟩] W fun e w' => e = .returned (numA l) ∧ w' = W) := hid (fun W => rNumber_any hl)
  have hm : foldZ n ≤ 9223372036854775807 := by unfold foldZ; split <;> omega
  have C3 : Hid (∀ W, Calls Tryd.prog 8 #[.int .i64 (foldZ n : Int)] W fun e w' => e = .returned (.string ⟨(Lib.decDigits (foldZ n)).toArray⟩) ∧ Below W.heap.size W w') := hid (fun W => Digits_any (foldZ n) W hm)
  have C4 : Hid (∀ W, Below w.heap.size w W → Calls Tryd.prog 6 #[.string ⟨(Lib.decDigits (foldZ n)).toArray⟩] W fun e w' => e = .returned (.tuple #[.int .i64 (foldZ n : Int), .bool true]) ∧ Below W.heap.size W w') := hid (fun W hb => by
    have hs := digits_short hm
    have := Number_any (l := Lib.decDigits (foldZ n)) (V.later hb) (by omega)
    have e : numA (Lib.decDigits (foldZ n)) = .tuple #[.int .i64 (foldZ n : Int), .bool true] := by unfold numA; rw [numW_digits hm]; rfl
    rw [e] at this
    exact this)
  unfold numA at C1 C2
  generalize (((numW l).getD 0 : Nat) : Int) = z at *
  generalize (numW l).isSome = b at *
  clear V hl hm
  have ez : (z != z) = false := by simp
  have eb : (b != b) = false := by simp
  by_cases hn : n < 0
  · have ef : Hid ((foldZ n : Int) = -(n + 1)) := hid (by unfold foldZ; rw [if_pos hn]; omega)
    rw [ef.out] at C3 C4
    generalize ByteArray.mk (Lib.decDigits (foldZ n)).toArray = X at *
    generalize ByteArray.mk l.toArray = L at *
    have ee : ((-(n + 1)) == (-(n + 1))) = true := by simp
    clear ef
    go_enter Tryd.func3, Tryd.ntmps3
    go_wp2_with (go_at_call 6; refine C1.out.mono ?_; rintro e w1 ⟨rfl, B1⟩; have BB1 := hid B1; clear B1; refine Hid.out ?_)
    refine hid ?_
    go_wp2_with (go_at_call 7; refine (C2.out _).mono ?_; rintro e w2 ⟨rfl, hw2⟩; subst w2; refine Hid.out ?_)
    refine hid ?_
    go_wp2_with (go_at_call 8; refine (C3.out _).mono ?_; rintro e w3 ⟨rfl, B3⟩; have BB3 := hid (BB1.out.trans (B3.mono BB1.out.size)); have Q := hid (C4.out _ BB3.out); clear B3; refine Hid.out ?_)
    refine hid ?_
    go_wp2_with (go_at_call 6; refine Q.out.mono ?_; rintro e w4 ⟨rfl, B4⟩; have BB4 := hid (BB3.out.trans (B4.mono BB3.out.size)); clear B4; refine Hid.out ?_)
    refine hid ?_
    go_wp2
    go_ret
    exact ⟨rfl, BB4.out⟩
  · have ef : Hid ((foldZ n : Int) = n) := hid (by unfold foldZ; rw [if_neg hn]; omega)
    rw [ef.out] at C3 C4
    generalize ByteArray.mk (Lib.decDigits (foldZ n)).toArray = X at *
    generalize ByteArray.mk l.toArray = L at *
    have ee : (n == n) = true := by simp
    clear ef
    go_enter Tryd.func3, Tryd.ntmps3
    go_wp2_with (go_at_call 6; refine C1.out.mono ?_; rintro e w1 ⟨rfl, B1⟩; have BB1 := hid B1; clear B1; refine Hid.out ?_)
    refine hid ?_
    go_wp2_with (go_at_call 7; refine (C2.out _).mono ?_; rintro e w2 ⟨rfl, hw2⟩; subst w2; refine Hid.out ?_)
    refine hid ?_
    go_wp2_with (go_at_call 8; refine (C3.out _).mono ?_; rintro e w3 ⟨rfl, B3⟩; have BB3 := hid (BB1.out.trans (B3.mono BB1.out.size)); have Q := hid (C4.out _ BB3.out); clear B3; refine Hid.out ?_)
    refine hid ?_
    go_wp2_with (go_at_call 6; refine Q.out.mono ?_; rintro e w4 ⟨rfl, B4⟩; have BB4 := hid (BB3.out.trans (B4.mono BB3.out.size)); clear B4; refine Hid.out ?_)
    refine hid ?_
    go_wp2
    go_ret
    exact ⟨rfl, BB4.out⟩
end Go.Proofs.YtgmjjopfpenceaaDoor

import Derived.Test.YtdhkdniddjnigaaGreatDoorMail1
namespace Go.Proofs.YtdhkdniddjnigaaGreatDoor
open Go.RowKit
set_option linter.unusedVariables false

def fldN : List (List UInt8) := [[], [81, 79], [86, 75, 81, 82], [86, 81], [86, 75, 67, 69], [86, 75], [86, 75, 67], [86], [86, 67, 78, 71], [86, 67, 71], [86, 76], [86, 67, 76, 72, 71], [86, 75, 67], [86, 67, 71], [75, 81, 79], [75, 81, 82]]
def fldS (i : Nat) : ByteArray := ⟨(fldN.getD i []).toArray⟩
/-- The table of fields, as the program's text lays it. -/
structure Fld (w : World) : Prop where
  lt : 2 < w.heap.size
  cell : ∀ i, i < 16 → w.cell? ⟨2, i, none⟩ = some (.string (fldS i))
theorem Fld.below {w w' : World} (h : Fld w) (hb : Below w.heap.size w w') : Fld w' :=
  ⟨Nat.lt_of_lt_of_le h.lt hb.size, fun i hi => cell_under hb h.lt (h.cell i hi)⟩

theorem hasCargo_any {w : World} {b : Nat} {k : Int} {v : Bool} (h0 : w.cell? ⟨b, 0, none⟩ = some (.int .i64 k)) (h9 : w.cell? ⟨b, 9, none⟩ = some (.bool v)) : Calls Tryz.prog 167 #[.pointer (some ⟨b, 0, none⟩)] w fun e w' => e = .returned (.bool (decide (k ≠ 11) || v)) ∧ w' = w := by
  by_cases hk : k = 11
  · subst hk
    go_enter Tryz.func167, Tryz.ntmps167
    go_wp2
    go_ret
    exact ⟨by simp, rfl⟩
  · have e1 : (k != 11) = true := by simpa using hk
    go_enter Tryz.func167, Tryz.ntmps167
    go_wp2
    go_ret
    exact ⟨by simp [hk], rfl⟩
/-- Is it one of the letters of its kind? -/
def inK (k : Nat) (r : Nat) : Bool := decide (0 ≤ Lib.indexByte (fldN.getD k []) r.toUInt8)
set_option maxRecDepth 100000 in
theorem has74_any {w : World} {b k : Nat} {r : Nat} {v : Bool} (hF : Fld w) (hk : k < 16) (hr : r < 128) (h0 : w.cell? ⟨b, 0, none⟩ = some (.int .i64 (k : Int))) (h9 : w.cell? ⟨b, 9, none⟩ = some (.bool v)) : Calls Tryz.prog 125 #[.pointer (some ⟨b, 0, none⟩), .int .i32 (r : Int)] w fun e w' => e = .returned (.bool (inK k r && (decide (r ≠ 71) || (decide ((k : Int) ≠ 11) || v)))) ∧ Below w.heap.size w w' := by
  have c := hF.cell k hk
  have j1 : (k : Int) < 16 := by omega
  have C : Hid (∀ W, Calls Tryz.prog 166 #[.string (fldS k), .int .i32 (r : Int)] W fun e w' => e = .returned (.bool (inK k r)) ∧ w' = W) := hid (fun W => by
    refine (contains_any (fldS k) (r : Int) W (by omega) (by omega)).mono ?_
    rintro e w' ⟨rfl, rfl⟩
    exact ⟨rfl, rfl⟩)
  have HC := hid (hasCargo_any h0 h9)
  clear hF
  generalize inK k r = B at *
  cases B
  · go_enter Tryz.func125, Tryz.ntmps125
    go_wp2_with fail
    refine (C.out _).mono ?_
    rintro e w1 ⟨rfl, rfl⟩
    go_wp2
    go_ret
    exact ⟨rfl, Below.refl _ _⟩
  · by_cases h71 : r = 71
    · subst h71
      go_enter Tryz.func125, Tryz.ntmps125
      go_wp2_with fail
      refine (C.out _).mono ?_
      rintro e w1 ⟨rfl, rfl⟩
      go_wp2_with fail
      refine HC.out.mono ?_
      rintro e w1 ⟨rfl, rfl⟩
      go_wp2
      go_ret
      exact ⟨by simp, Below.refl _ _⟩
    · have e1 : ((r : Int) != 71) = true := by simp; omega
      have e2 : ¬ (r : Int) = 71 := by omega
      go_enter Tryz.func125, Tryz.ntmps125
      go_wp2_with fail
      refine (C.out _).mono ?_
      rintro e w1 ⟨rfl, rfl⟩
      go_wp2
      go_ret
      exact ⟨by simp [h71], Below.refl _ _⟩
end Go.Proofs.YtdhkdniddjnigaaGreatDoor

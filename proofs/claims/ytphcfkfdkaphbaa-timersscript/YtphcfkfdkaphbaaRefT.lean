import Derived.Test.YtphcfkfdkaphbaaBackoff
namespace Go.Proofs.Ytphcfkfdkaphbaa
open Go.RowKit
set_option linter.unusedVariables false

/-- A timer of the document's table. -/
structure Tm where
  t : ByteArray
  k : Int
  l : Int

def Tm.cells (x : Tm) : List Value := [.string x.t, .int .i64 x.k, .int .i64 x.l]
def flatT (ts : List Tm) : List Value := ts.flatMap Tm.cells
theorem flatT_length (ts : List Tm) : (flatT ts).length = ts.length * 3 := by
  induction ts with
  | nil => rfl
  | cons a r ih => simp only [flatT, List.flatMap_cons, List.length_append, List.length_cons] at ih ⊢; rw [ih]; simp [Tm.cells]; omega
theorem flatT_append (a b : List Tm) : flatT (a ++ b) = flatT a ++ flatT b := by simp [flatT]
theorem flatT_at {ts : List Tm} {i : Nat} {x : Tm} (h : ts[i]? = some x) {j : Nat} (hj : j < 3) : (flatT ts)[i * 3 + j]? = x.cells[j]? := by
  induction ts generalizing i with
  | nil => simp at h
  | cons a r ih =>
    simp only [flatT, List.flatMap_cons] at ih ⊢
    cases i with
    | zero =>
      simp at h
      subst h
      rw [List.getElem?_append_left (by simp [Tm.cells]; omega)]
      simp
    | succ i =>
      simp only [List.getElem?_cons_succ] at h
      have e : (i + 1) * 3 + j = (a.cells).length + (i * 3 + j) := by simp [Tm.cells]; omega
      rw [e, List.getElem?_append_right (by omega), Nat.add_sub_cancel_left]
      exact ih h

/-- The document's order on names. -/
def bef (t u : ByteArray) (a b : Int) : Bool := if Op.bytesLess t.toList u.toList = true then true else if t.toList = u.toList then decide (a < b) else false

set_option maxRecDepth 1000000 in
theorem before_any {w : World} (t u : ByteArray) (a b : Int) : Calls Try.prog 54 #[.agg #[.string t, .int .i64 a], .agg #[.string u, .int .i64 b]] w fun e w' => e = .returned (.bool (bef t u a b)) ∧ Below w.heap.size w w' := by
  have HB := hid (((Below.refl w.heap.size w).alloc (Nat.le_refl _) (.cells #[.string t, .int .i64 a] 50)).alloc (by simp) (.cells #[.string u, .int .i64 b] 50))
  go_enter Try.func54, Try.ntmps54
  go_wp2
  all_goals go_ret
  · rename_i h1
    exact ⟨by rw [bef, if_pos h1]; rfl, HB.out⟩
  · rename_i h1 h2
    exact ⟨by rw [bef, if_neg h1, if_pos h2]; rfl, HB.out⟩
  · rename_i h1 h2
    exact ⟨by rw [bef, if_neg h1, if_neg h2]; rfl, HB.out⟩

/-- Where a name stands; none: nowhere. -/
def placeT (t : ByteArray) (k : Int) : List Tm → Nat → Int
  | [], _ => -1
  | x :: r, i => if x.t.toList = t.toList ∧ x.k = k then (i : Int) else placeT t k r (i + 1)
end Go.Proofs.Ytphcfkfdkaphbaa

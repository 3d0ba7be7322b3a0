import Derived.Test.YtdhkdniddjnigaaGreatDoorTabs
import Derived.Test.YtdhkdniddjnigaaGreatDoorBas
namespace Go.Proofs.YtdhkdniddjnigaaGreatDoor
open Go.RowKit
set_option linter.unusedVariables false

/-- The table of forms, as the program's text lays it. -/
structure Tab (w : World) : Prop where
  lt : 3 < w.heap.size
  cell : ∀ i, i < 72 → w.cell? ⟨3, i, none⟩ = some (.int .i64 (formN.getD i 0))

theorem Tab.below {w w' : World} (h : Tab w) (hb : Below w.heap.size w w') : Tab w' :=
  ⟨Nat.lt_of_lt_of_le h.lt hb.size, fun i hi => cell_under hb h.lt (h.cell i hi)⟩
theorem Tab.fr {F : List Nat} {w w' : World} (h : Tab w) (hb : Fr F w w') (hF : 3 ∉ F) : Tab w' :=
  ⟨Nat.lt_of_lt_of_le h.lt hb.size, fun i hi => by have := h.cell i hi; simp only [World.cell?, hb.block 3 h.lt hF] at this ⊢; exact this⟩

abbrev spanV (a b : Int) : Value := .agg #[.int .i64 a, .int .i64 b]
def hs (b : Int) : Bool := decide (0 < b)
def hl (a b n : Int) : Bool := decide (a ≤ n) && decide (n ≤ b)
def wr (a b n : Int) : Bool := hs b && !hl a b n
def ex (b n : Int) : Bool := !hs b && decide (n ≠ 0)

theorem has_any {w : World} (a b : Int) : Calls Tryz.prog 218 #[spanV a b] w fun e w' => e = .returned (.bool (hs b)) ∧ Below w.heap.size w w' := by
  go_enter Tryz.func218, Tryz.ntmps218
  go_wp2
  go_ret
  exact ⟨rfl, ba _ _⟩

theorem holds_any {w : World} (a b n : Int) : Calls Tryz.prog 219 #[spanV a b, .int .i64 n] w fun e w' => e = .returned (.bool (hl a b n)) ∧ Below w.heap.size w w' := by
  by_cases h : a ≤ n
  · have e1 : decide (a ≤ n) = true := by simpa using h
    go_enter Tryz.func219, Tryz.ntmps219
    go_wp2
    go_ret
    exact ⟨by simp [hl, h], ba _ _⟩
  · have e1 : decide (a ≤ n) = false := by simpa using h
    go_enter Tryz.func219, Tryz.ntmps219
    go_wp2
    go_ret
    exact ⟨by simp [hl, e1], ba _ _⟩

theorem has_b {w : World} (a b : Int) : Calls Tryz.prog 218 #[spanV a b] w fun e w' => ∃ x, Hid (hs b = x) ∧ e = .returned (.bool x) ∧ Hid (Below w.heap.size w w') :=
  (has_any a b).mono fun e w' ⟨h, h'⟩ => ⟨_, hid rfl, h, h'⟩
theorem holds_b {w : World} (a b n : Int) : Calls Tryz.prog 219 #[spanV a b, .int .i64 n] w fun e w' => ∃ x, Hid (hl a b n = x) ∧ e = .returned (.bool x) ∧ Hid (Below w.heap.size w w') :=
  (holds_any a b n).mono fun e w' ⟨h, h'⟩ => ⟨_, hid rfl, h, h'⟩

theorem b2 {w w1 w2 : World} (h : Below w.heap.size w w1) (k : Below w1.heap.size w1 w2) : Below w.heap.size w w2 := h.trans (k.mono h.size)
end Go.Proofs.YtdhkdniddjnigaaGreatDoor

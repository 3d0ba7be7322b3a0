import Derived.Test.YtjnbnmlggbfodaaShelf
import Derived.Deep.MidRow
import Derived.Deep.RegionHeld3
import Derived.Deep.DeepCutAuto
import Derived.Deep.QuietTactic
import Derived.BigQuiet
namespace Go.Proofs.Ytjnbnmlggbfodaa
open Go.RowKit
set_option linter.unusedVariables false

structure Bal where
  who : Int
  nm : Int
  op : Int
  cm : Int
  deriving DecidableEq
def Bal.cells (x : Bal) : List Value := [.int .i64 x.who, .int .i64 x.nm, .int .i64 x.op, .int .i64 x.cm]
abbrev Bal.V (x : Bal) : Value := .agg #[.int .i64 x.who, .int .i64 x.nm, .int .i64 x.op, .int .i64 x.cm]
def Bal.zero : Bal := ⟨0, 0, 0, 0⟩
theorem Bal.len (x : Bal) : x.cells.length = 4 := rfl
theorem Bal.one (x : Bal) : ∀ u ∈ x.cells, u.oneCell' = true := by
  intro u hu
  simp only [Bal.cells, List.mem_cons, List.not_mem_nil, or_false] at hu
  rcases hu with rfl | rfl | rfl | rfl <;> rfl
def flatB (l : List Bal) : List Value := l.flatMap Bal.cells
theorem flatB_snoc (l : List Bal) (e : Bal) : flatB (l ++ [e]) = flatB l ++ e.cells := by simp [flatB]
theorem flatB_append (l m : List Bal) : flatB (l ++ m) = flatB l ++ flatB m := by simp [flatB]
theorem flatB_len (l : List Bal) : (flatB l).length = l.length * 4 := by
  induction l with
  | nil => rfl
  | cons a l ih => simp [flatB] at ih ⊢; rw [ih, Bal.len]; omega
theorem flatB_one (l : List Bal) : ∀ u ∈ flatB l, u.oneCell' = true := by
  intro u hu
  obtain ⟨x, _, h⟩ := List.mem_flatMap.1 hu
  exact x.one u h
theorem flatB_at : ∀ {l : List Bal} {i : Nat} {x : Bal}, l[i]? = some x → ∀ {j : Nat}, j < 4 → (flatB l)[i * 4 + j]? = x.cells[j]?
  | a :: l, 0, x, h, j, hj => by
    simp at h
    subst h
    rw [Nat.zero_mul, Nat.zero_add]
    exact List.getElem?_append_left (by rw [a.len]; exact hj)
  | a :: l, i + 1, x, h, j, hj => by
    have ih := flatB_at (l := l) (i := i) (x := x) (by simpa using h) hj
    rw [← ih]
    show (a.cells ++ flatB l)[_]? = _
    rw [List.getElem?_append_right (by rw [a.len]; omega), a.len]
    congr 1
    omega
/-- A list that is read. -/
def BalsAt (w : World) (v : Value) (l : List Bal) : Prop := ∃ ao c, v = .slice ao l.length c ∧ l.length ≤ c ∧ (ao = none → l = [] ∧ c = 0) ∧ ∀ (i : Nat) (x : Bal), l[i]? = some x → ∃ g o, ao = some ⟨g, o, none⟩ ∧ g < w.heap.size ∧ ∀ j u, x.cells[j]? = some u → w.cell? ⟨g, o + i * 4 + j, none⟩ = some u
theorem BalsAt.later {w w' : World} {v : Value} {l : List Bal} (h : BalsAt w v l) (hb : Below w.heap.size w w') : BalsAt w' v l := by
  obtain ⟨ao, c, h1, h2, h3, h4⟩ := h
  refine ⟨ao, c, h1, h2, h3, fun i x hx => ?_⟩
  obtain ⟨g, o, e, hg, hr⟩ := h4 i x hx
  exact ⟨g, o, e, Nat.lt_of_lt_of_le hg hb.size, fun j v hv => cell_under hb hg (hr j v hv)⟩
theorem BalsAt.form {w : World} {v : Value} {l : List Bal} (h : BalsAt w v l) : ∃ ao c, v = .slice ao l.length c := by
  obtain ⟨ao, c, h1, _⟩ := h
  exact ⟨ao, c, h1⟩
theorem BalsAt.cap {w : World} {ao : Option Addr} {n c : Nat} {l : List Bal} (h : BalsAt w (.slice ao n c) l) : l.length ≤ c ∧ n = l.length := by
  obtain ⟨ao, c, h1, h2, _⟩ := h
  simp only [Value.slice.injEq] at h1
  exact ⟨by omega, h1.2.1⟩
theorem BalsAt.at {w W : World} {ao : Option Addr} {n c : Nat} {l : List Bal} (h : BalsAt w (.slice ao n c) l) (hb : Below w.heap.size w W) {i : Nat} {x : Bal} (hx : l[i]? = some x) : ∃ g o, ao = some ⟨g, o, none⟩ ∧ g < w.heap.size ∧ W.cell? ⟨g, o + i * 4, none⟩ = some (.int .i64 x.who) ∧ W.cell? ⟨g, o + i * 4 + 1, none⟩ = some (.int .i64 x.nm) ∧ W.cell? ⟨g, o + i * 4 + 2, none⟩ = some (.int .i64 x.op) ∧ W.cell? ⟨g, o + i * 4 + 3, none⟩ = some (.int .i64 x.cm) := by
  obtain ⟨ao', c', e, _, _, h1⟩ := h
  simp only [Value.slice.injEq] at e
  obtain ⟨rfl, _, _⟩ := e
  obtain ⟨g, o, rfl, hg, hc⟩ := h1 i x hx
  have key : ∀ j u, x.cells[j]? = some u → W.cell? ⟨g, o + i * 4 + j, none⟩ = some u := fun j u hu => cell_under hb hg (hc j u hu)
  exact ⟨g, o, rfl, hg, key 0 _ rfl, key 1 _ rfl, key 2 _ rfl, key 3 _ rfl⟩
theorem Bal.blk {W : World} {b : Nat} {x : Bal} (h : W.heap[b]? = some (.cells x.cells.toArray 27 (0, 0))) : W.cell? ⟨b, 0, none⟩ = some (.int .i64 x.who) ∧ W.cell? ⟨b, 1, none⟩ = some (.int .i64 x.nm) ∧ W.cell? ⟨b, 2, none⟩ = some (.int .i64 x.op) ∧ W.cell? ⟨b, 3, none⟩ = some (.int .i64 x.cm) := by
  refine ⟨?_, ?_, ?_, ?_⟩ <;> (rw [cell_at h]; rfl)

structure Wit where
  who : Int
  vw : Int
  has : Bool
  deriving DecidableEq
def Wit.cells (x : Wit) : List Value := [.int .i64 x.who, .int .i64 x.vw, .bool x.has]
abbrev Wit.V (x : Wit) : Value := .agg #[.int .i64 x.who, .int .i64 x.vw, .bool x.has]
def Wit.zero : Wit := ⟨0, 0, false⟩
theorem Wit.len (x : Wit) : x.cells.length = 3 := rfl
theorem Wit.one (x : Wit) : ∀ u ∈ x.cells, u.oneCell' = true := by
  intro u hu
  simp only [Wit.cells, List.mem_cons, List.not_mem_nil, or_false] at hu
  rcases hu with rfl | rfl | rfl <;> rfl
def flatW (l : List Wit) : List Value := l.flatMap Wit.cells
theorem flatW_snoc (l : List Wit) (e : Wit) : flatW (l ++ [e]) = flatW l ++ e.cells := by simp [flatW]
theorem flatW_append (l m : List Wit) : flatW (l ++ m) = flatW l ++ flatW m := by simp [flatW]
theorem flatW_len (l : List Wit) : (flatW l).length = l.length * 3 := by
  induction l with
  | nil => rfl
  | cons a l ih => simp [flatW] at ih ⊢; rw [ih, Wit.len]; omega
theorem flatW_one (l : List Wit) : ∀ u ∈ flatW l, u.oneCell' = true := by
  intro u hu
  obtain ⟨x, _, h⟩ := List.mem_flatMap.1 hu
  exact x.one u h
theorem flatW_at : ∀ {l : List Wit} {i : Nat} {x : Wit}, l[i]? = some x → ∀ {j : Nat}, j < 3 → (flatW l)[i * 3 + j]? = x.cells[j]?
  | a :: l, 0, x, h, j, hj => by
    simp at h
    subst h
    rw [Nat.zero_mul, Nat.zero_add]
    exact List.getElem?_append_left (by rw [a.len]; exact hj)
  | a :: l, i + 1, x, h, j, hj => by
    have ih := flatW_at (l := l) (i := i) (x := x) (by simpa using h) hj
    rw [← ih]
    show (a.cells ++ flatW l)[_]? = _
    rw [List.getElem?_append_right (by rw [a.len]; omega), a.len]
    congr 1
    omega
/-- A list that is read. -/
def WitsAt (w : World) (v : Value) (l : List Wit) : Prop := ∃ ao c, v = .slice ao l.length c ∧ l.length ≤ c ∧ (ao = none → l = [] ∧ c = 0) ∧ ∀ (i : Nat) (x : Wit), l[i]? = some x → ∃ g o, ao = some ⟨g, o, none⟩ ∧ g < w.heap.size ∧ ∀ j u, x.cells[j]? = some u → w.cell? ⟨g, o + i * 3 + j, none⟩ = some u
theorem WitsAt.later {w w' : World} {v : Value} {l : List Wit} (h : WitsAt w v l) (hb : Below w.heap.size w w') : WitsAt w' v l := by
  obtain ⟨ao, c, h1, h2, h3, h4⟩ := h
  refine ⟨ao, c, h1, h2, h3, fun i x hx => ?_⟩
  obtain ⟨g, o, e, hg, hr⟩ := h4 i x hx
  exact ⟨g, o, e, Nat.lt_of_lt_of_le hg hb.size, fun j v hv => cell_under hb hg (hr j v hv)⟩
theorem WitsAt.form {w : World} {v : Value} {l : List Wit} (h : WitsAt w v l) : ∃ ao c, v = .slice ao l.length c := by
  obtain ⟨ao, c, h1, _⟩ := h
  exact ⟨ao, c, h1⟩
theorem WitsAt.cap {w : World} {ao : Option Addr} {n c : Nat} {l : List Wit} (h : WitsAt w (.slice ao n c) l) : l.length ≤ c ∧ n = l.length := by
  obtain ⟨ao, c, h1, h2, _⟩ := h
  simp only [Value.slice.injEq] at h1
  exact ⟨by omega, h1.2.1⟩
theorem WitsAt.at {w W : World} {ao : Option Addr} {n c : Nat} {l : List Wit} (h : WitsAt w (.slice ao n c) l) (hb : Below w.heap.size w W) {i : Nat} {x : Wit} (hx : l[i]? = some x) : ∃ g o, ao = some ⟨g, o, none⟩ ∧ g < w.heap.size ∧ W.cell? ⟨g, o + i * 3, none⟩ = some (.int .i64 x.who) ∧ W.cell? ⟨g, o + i * 3 + 1, none⟩ = some (.int .i64 x.vw) ∧ W.cell? ⟨g, o + i * 3 + 2, none⟩ = some (.bool x.has) := by
  obtain ⟨ao', c', e, _, _, h1⟩ := h
  simp only [Value.slice.injEq] at e
  obtain ⟨rfl, _, _⟩ := e
  obtain ⟨g, o, rfl, hg, hc⟩ := h1 i x hx
  have key : ∀ j u, x.cells[j]? = some u → W.cell? ⟨g, o + i * 3 + j, none⟩ = some u := fun j u hu => cell_under hb hg (hc j u hu)
  exact ⟨g, o, rfl, hg, key 0 _ rfl, key 1 _ rfl, key 2 _ rfl⟩
theorem Wit.blk {W : World} {b : Nat} {x : Wit} (h : W.heap[b]? = some (.cells x.cells.toArray 33 (0, 0))) : W.cell? ⟨b, 0, none⟩ = some (.int .i64 x.who) ∧ W.cell? ⟨b, 1, none⟩ = some (.int .i64 x.vw) ∧ W.cell? ⟨b, 2, none⟩ = some (.bool x.has) := by
  refine ⟨?_, ?_, ?_⟩ <;> (rw [cell_at h]; rfl)
end Go.Proofs.Ytjnbnmlggbfodaa

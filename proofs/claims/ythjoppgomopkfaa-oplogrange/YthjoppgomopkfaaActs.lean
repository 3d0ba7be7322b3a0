import Derived.Test.YthjoppgomopkfaaRow
namespace Go.Proofs.Ythjoppgomopkfaa
open Go.RowKit
set_option linter.unusedVariables false

/-- Entries that came in. -/
def EntsW (w : World) (v : Value) (l : List Ent) : Prop := ∃ ao c, v = .slice ao l.length c ∧ l.length ≤ c ∧ (ao = none → l = [] ∧ c = 0) ∧ ∀ (i : Nat) (x : Ent), l[i]? = some x → ∃ g o, ao = some ⟨g, o, none⟩ ∧ g < w.heap.size ∧ w.rangeAt g (o + i * 7) x.cells
def i64In (z : Int) : Prop := -9223372036854775808 ≤ z ∧ z < 9223372036854775808
/-- A call that is handed in. -/
structure Act0 where
  kd : Int
  lg : Int
  op : Int
  ms : Int
  e : Ent
  s : Value
  l : List Ent
def Act0.cells (x : Act0) : List Value := [.int .i64 x.kd, .int .i64 x.lg, .int .i64 x.op, .int .i64 x.ms, .int .i64 x.e.c, .int .i64 x.e.n, .int .i64 x.e.k, .string x.e.nm, .string x.e.tx, .int .i64 x.e.m, .int .i64 x.e.q, x.s]
abbrev Act0.V (x : Act0) : Value := .agg #[.int .i64 x.kd, .int .i64 x.lg, .int .i64 x.op, .int .i64 x.ms, .int .i64 x.e.c, .int .i64 x.e.n, .int .i64 x.e.k, .string x.e.nm, .string x.e.tx, .int .i64 x.e.m, .int .i64 x.e.q, x.s]
structure Act0.good (w : World) (x : Act0) : Prop where
  kd : i64In x.kd
  lg : i64In x.lg
  op : i64In x.op
  ms : i64In x.ms
  rd : EntsW w x.s x.l
  few : x.l.length * 72 ≤ 140737488351232
def ActsAt (w : World) (v : Value) (xs : List Act0) : Prop :=
  ∃ ao cp, v = .slice ao xs.length cp ∧ ∀ i x, xs[i]? = some x → x.good w ∧ ∃ g o, ao = some ⟨g, o, none⟩ ∧ g < w.heap.size ∧ ∀ j u, x.cells[j]? = some u → w.cell? ⟨g, o + (i * 12 + j), none⟩ = some u
theorem EntsW.later {w w' : World} {v : Value} {l : List Ent} (h : EntsW w v l) (hb : Below w.heap.size w w') : EntsW w' v l := by
  obtain ⟨ao, c, h1, h2, h3, h4⟩ := h
  refine ⟨ao, c, h1, h2, h3, fun i x hx => ?_⟩
  obtain ⟨g, o, e, hg, hr⟩ := h4 i x hx
  exact ⟨g, o, e, Nat.lt_of_lt_of_le hg hb.size, fun j v hv => cell_under hb hg (hr j v hv)⟩
/-- A call's cells, one by one. -/
theorem acts_cells {w W : World} {ao : Option Addr} {n cp : Nat} {xs : List Act0} (h : ActsAt w (.slice ao n cp) xs) (hb : Below w.heap.size w W) {i : Nat} {x : Act0} (hx : xs[i]? = some x) : ∃ g o, ao = some ⟨g, o, none⟩ ∧ g < w.heap.size ∧
    W.cell? ⟨g, o + i * 12, none⟩ = some (.int .i64 x.kd) ∧ W.cell? ⟨g, o + i * 12 + 1, none⟩ = some (.int .i64 x.lg) ∧ W.cell? ⟨g, o + i * 12 + 2, none⟩ = some (.int .i64 x.op) ∧ W.cell? ⟨g, o + i * 12 + 3, none⟩ = some (.int .i64 x.ms) ∧ W.cell? ⟨g, o + i * 12 + 4, none⟩ = some (.int .i64 x.e.c) ∧ W.cell? ⟨g, o + i * 12 + 5, none⟩ = some (.int .i64 x.e.n) ∧ W.cell? ⟨g, o + i * 12 + 6, none⟩ = some (.int .i64 x.e.k) ∧ W.cell? ⟨g, o + i * 12 + 7, none⟩ = some (.string x.e.nm) ∧ W.cell? ⟨g, o + i * 12 + 8, none⟩ = some (.string x.e.tx) ∧ W.cell? ⟨g, o + i * 12 + 9, none⟩ = some (.int .i64 x.e.m) ∧ W.cell? ⟨g, o + i * 12 + 10, none⟩ = some (.int .i64 x.e.q) ∧ W.cell? ⟨g, o + i * 12 + 11, none⟩ = some x.s := by
  obtain ⟨ao', cp', e, h1⟩ := h
  simp only [Value.slice.injEq] at e
  obtain ⟨rfl, _, _⟩ := e
  obtain ⟨_, g, o, rfl, hg, hc⟩ := h1 i x hx
  have key : ∀ j u, x.cells[j]? = some u → W.cell? ⟨g, o + i * 12 + j, none⟩ = some u := fun j u hu => by
    have := cell_under hb hg (hc j u hu)
    rw [Nat.add_assoc]; exact this
  exact ⟨g, o, rfl, hg, key 0 _ rfl, key 1 _ rfl, key 2 _ rfl, key 3 _ rfl, key 4 _ rfl, key 5 _ rfl, key 6 _ rfl, key 7 _ rfl, key 8 _ rfl, key 9 _ rfl, key 10 _ rfl, key 11 _ rfl⟩
theorem acts_good {w : World} {v : Value} {xs : List Act0} (h : ActsAt w v xs) {i : Nat} {x : Act0} (hx : xs[i]? = some x) : x.good w := by
  obtain ⟨ao', cp', e, h1⟩ := h
  exact (h1 i x hx).1
theorem acts_form {w : World} {v : Value} {xs : List Act0} (h : ActsAt w v xs) : ∃ ao c, v = .slice ao xs.length c := by
  obtain ⟨ao', cp', e, h1⟩ := h
  exact ⟨_, _, e⟩
/-- A call in a block. -/
theorem act_cells {W : World} {b : Nat} {x : Act0} (h : W.heap[b]? = some (.cells x.cells.toArray 42 (0, 0))) : 
    W.cell? ⟨b, 0, none⟩ = some (.int .i64 x.kd) ∧ W.cell? ⟨b, 1, none⟩ = some (.int .i64 x.lg) ∧ W.cell? ⟨b, 2, none⟩ = some (.int .i64 x.op) ∧ W.cell? ⟨b, 3, none⟩ = some (.int .i64 x.ms) ∧ W.cell? ⟨b, 4, none⟩ = some (.int .i64 x.e.c) ∧ W.cell? ⟨b, 5, none⟩ = some (.int .i64 x.e.n) ∧ W.cell? ⟨b, 6, none⟩ = some (.int .i64 x.e.k) ∧ W.cell? ⟨b, 7, none⟩ = some (.string x.e.nm) ∧ W.cell? ⟨b, 8, none⟩ = some (.string x.e.tx) ∧ W.cell? ⟨b, 9, none⟩ = some (.int .i64 x.e.m) ∧ W.cell? ⟨b, 10, none⟩ = some (.int .i64 x.e.q) ∧ W.cell? ⟨b, 11, none⟩ = some x.s := by
  refine ⟨?_, ?_, ?_, ?_, ?_, ?_, ?_, ?_, ?_, ?_, ?_, ?_⟩ <;> (rw [cell_at h]; rfl)
end Go.Proofs.Ythjoppgomopkfaa

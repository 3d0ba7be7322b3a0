import Derived.Test.YtpfpamkbahgkpaaLaw3
namespace Go.Proofs.Ytpfpamkbahgkpaa
open Go.RowKit
set_option linter.unusedVariables false

/-- A step, and where its bytes lie. -/
structure OpV where
  o : Op1
  ao : Option Addr
  c : Nat
def OpV.cells (x : OpV) : List Value := [.bool x.o.s, .int .i64 x.o.k, .int .i64 x.o.a, .int .i64 x.o.b, .int .i64 x.o.y, .slice x.ao x.o.d.length x.c]
/-- A script that is read. -/
def OpsAt (w : World) (v : Value) (xs : List OpV) : Prop := ∃ ao c, v = .slice ao xs.length c ∧ ∀ (i : Nat) (x : OpV), xs[i]? = some x → (∃ g o, ao = some ⟨g, o, none⟩ ∧ g < w.heap.size ∧ w.rangeAt g (o + i * 6) x.cells) ∧ Reads w (.slice x.ao x.o.d.length x.c) x.o.d ∧ x.o.d.length ≤ 140737488351232
theorem OpsAt.later {w w' : World} {v : Value} {xs : List OpV} (h : OpsAt w v xs) (hb : Below w.heap.size w w') : OpsAt w' v xs := by
  obtain ⟨ao, c, rfl, hx⟩ := h
  refine ⟨ao, c, rfl, fun i x hi => ?_⟩
  obtain ⟨⟨g, o, e, hg, hr⟩, h2, h3⟩ := hx i x hi
  refine ⟨⟨g, o, e, Nat.lt_of_lt_of_le hg hb.size, fun j v hv => ?_⟩, h2.below hb, h3⟩
  rw [World.cell?_of_block (w := w) (hb.block g hg)]
  exact hr j v hv
/-- A step's cells, one by one. -/
def opAt (w : World) (b o : Nat) (x : OpV) : Prop := w.cell? ⟨b, o, none⟩ = some (.bool x.o.s) ∧ w.cell? ⟨b, o + 1, none⟩ = some (.int .i64 x.o.k) ∧ w.cell? ⟨b, o + 2, none⟩ = some (.int .i64 x.o.a) ∧ w.cell? ⟨b, o + 3, none⟩ = some (.int .i64 x.o.b) ∧ w.cell? ⟨b, o + 4, none⟩ = some (.int .i64 x.o.y) ∧ w.cell? ⟨b, o + 5, none⟩ = some (.slice x.ao x.o.d.length x.c)
theorem opAt_of {w : World} {b o : Nat} {x : OpV} (h : w.rangeAt b o x.cells) : opAt w b o x :=
  ⟨h 0 _ rfl, h 1 _ rfl, h 2 _ rfl, h 3 _ rfl, h 4 _ rfl, h 5 _ rfl⟩
theorem OpsAt.at {w : World} {ao : Option Addr} {n c : Nat} {xs : List OpV} (h : OpsAt w (.slice ao n c) xs) {i : Nat} {x : OpV} (hx : xs[i]? = some x) : ∃ g o, ao = some ⟨g, o, none⟩ ∧ g < w.heap.size ∧ opAt w g (o + i * 6) x ∧ Reads w (.slice x.ao x.o.d.length x.c) x.o.d ∧ x.o.d.length ≤ 140737488351232 := by
  obtain ⟨ao', c', e, hh⟩ := h
  simp only [Value.slice.injEq] at e
  obtain ⟨rfl, -, -⟩ := e
  obtain ⟨⟨g, o, e, hg, hr⟩, h2, h3⟩ := hh i x hx
  exact ⟨g, o, e, hg, opAt_of hr, h2, h3⟩
end Go.Proofs.Ytpfpamkbahgkpaa

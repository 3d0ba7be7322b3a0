import Derived.Test.YtagdpfghooogfaaRows2
namespace Go.Proofs.Ytagdpfghooogfaa
open Go.RowKit
set_option linter.unusedVariables false

/-- A statement in a box. -/
structure Box (p : Prop) : Prop where
  out : p

/-- A row that is handed in. -/
structure Rw0 where
  n : Int
  a : Int
  c : Int
  k : Int
  s : Value
  l : List ByteArray
def RowsAt (w : World) (v : Value) (xs : List Rw0) : Prop :=
  ∃ ao cp, v = .slice ao xs.length cp ∧ ∀ i x, xs[i]? = some x → x.l.length ≤ 9223372036854775807 ∧ ∃ g o, ao = some ⟨g, o, none⟩ ∧ g < w.heap.size ∧ w.cell? ⟨g, o + i * 5, none⟩ = some (.int .i64 x.n) ∧ w.cell? ⟨g, o + i * 5 + 1, none⟩ = some (.int .i64 x.a) ∧ w.cell? ⟨g, o + i * 5 + 2, none⟩ = some (.int .i64 x.c) ∧ w.cell? ⟨g, o + i * 5 + 3, none⟩ = some (.int .i64 x.k) ∧ w.cell? ⟨g, o + i * 5 + 4, none⟩ = some x.s ∧ Txts w x.s x.l
theorem RowsAt.form {w : World} {v : Value} {xs : List Rw0} (h : RowsAt w v xs) : ∃ ao cp, v = .slice ao xs.length cp := by obtain ⟨ao, c, e, _⟩ := h; exact ⟨ao, c, e⟩
theorem RowsAt.at {w W : World} {ao : Option Addr} {n cp : Nat} {xs : List Rw0} (h : RowsAt w (.slice ao n cp) xs) (hb : Below w.heap.size w W) {i : Nat} {x : Rw0} (hx : xs[i]? = some x) :
    x.l.length ≤ 9223372036854775807 ∧ ∃ g o, ao = some ⟨g, o, none⟩ ∧ g < w.heap.size ∧ W.cell? ⟨g, o + i * 5, none⟩ = some (.int .i64 x.n) ∧ W.cell? ⟨g, o + i * 5 + 1, none⟩ = some (.int .i64 x.a) ∧ W.cell? ⟨g, o + i * 5 + 2, none⟩ = some (.int .i64 x.c) ∧ W.cell? ⟨g, o + i * 5 + 3, none⟩ = some (.int .i64 x.k) ∧ W.cell? ⟨g, o + i * 5 + 4, none⟩ = some x.s ∧ Txts W x.s x.l := by
  obtain ⟨ao', c', e, hh⟩ := h
  simp only [Value.slice.injEq] at e
  obtain ⟨rfl, _, _⟩ := e
  obtain ⟨hl, g, o, h1, h2, h3, h4, h5, h6, h7, h8⟩ := hh i x hx
  exact ⟨hl, g, o, h1, h2, cell_under hb h2 h3, cell_under hb h2 h4, cell_under hb h2 h5, cell_under hb h2 h6, cell_under hb h2 h7, h8.later hb⟩

def IntsAt (w : World) (v : Value) (zs : List Int) : Prop :=
  ∃ ao cp, v = .slice ao zs.length cp ∧ ∀ i z, zs[i]? = some z → -9223372036854775808 ≤ z ∧ z < 9223372036854775808 ∧ ∃ g o, ao = some ⟨g, o, none⟩ ∧ g < w.heap.size ∧ w.cell? ⟨g, o + i, none⟩ = some (.int .i64 z)
theorem IntsAt.form {w : World} {v : Value} {zs : List Int} (h : IntsAt w v zs) : ∃ ao cp, v = .slice ao zs.length cp := by obtain ⟨ao, c, e, _⟩ := h; exact ⟨ao, c, e⟩
theorem IntsAt.at {w W : World} {ao : Option Addr} {n cp : Nat} {zs : List Int} (h : IntsAt w (.slice ao n cp) zs) (hb : Below w.heap.size w W) {i : Nat} {z : Int} (hx : zs[i]? = some z) :
    -9223372036854775808 ≤ z ∧ z < 9223372036854775808 ∧ ∃ g o, ao = some ⟨g, o, none⟩ ∧ g < w.heap.size ∧ W.cell? ⟨g, o + i, none⟩ = some (.int .i64 z) := by
  obtain ⟨ao', c', e, hh⟩ := h
  simp only [Value.slice.injEq] at e
  obtain ⟨rfl, _, _⟩ := e
  obtain ⟨h1, h2, g, o, h3, h4, h5⟩ := hh i z hx
  exact ⟨h1, h2, g, o, h3, h4, cell_under hb h4 h5⟩

end Go.Proofs.Ytagdpfghooogfaa

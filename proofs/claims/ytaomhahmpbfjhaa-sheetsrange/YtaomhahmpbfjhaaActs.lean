import Derived.Test.YtaomhahmpbfjhaaBase
namespace Go.Proofs.Ytaomhahmpbfjhaa
open Go.RowKit
set_option linter.unusedVariables false

/-- A call that was asked for. -/
structure Ac where
  kind : Int
  book : Int
  num : Int
  at_ : Int
  d1 : Option Addr
  d2 : Nat
  d3 : Nat
  l1 : Option Addr
  l2 : Nat
  l3 : Nat
  data : List UInt8

def Ac.cells (x : Ac) : List Value := [.int .i64 x.kind, .int .i64 x.book, .int .i64 x.num, .int .i64 x.at_, .slice x.d1 x.d2 x.d3, .slice x.l1 x.l2 x.l3]

/-- A script that came in. -/
def ActsAt (W : World) (v : Value) (xs : List Ac) : Prop :=
  ∃ ao c, v = .slice ao xs.length c ∧ (xs = [] ∨ ∃ b o, ao = some ⟨b, o, none⟩ ∧ b < W.heap.size ∧ ∀ i x, xs[i]? = some x → (∀ j u, x.cells[j]? = some u → W.cell? ⟨b, o + i * 6 + j, none⟩ = some u) ∧ Reads W (.slice x.d1 x.d2 x.d3) x.data)

theorem ActsAt.form {W : World} {v : Value} {xs : List Ac} (h : ActsAt W v xs) : ∃ ao c, v = .slice ao xs.length c := by
  obtain ⟨ao, c, rfl, _⟩ := h
  exact ⟨ao, c, rfl⟩
theorem ActsAt.at {W W' : World} {ao : Option Addr} {n c i : Nat} {xs : List Ac} {x : Ac} (h : ActsAt W (.slice ao n c) xs) (hb : Below W.heap.size W W') (hx : xs[i]? = some x) : ∃ b o, ao = some ⟨b, o, none⟩ ∧ b < W.heap.size ∧ (∀ j u, x.cells[j]? = some u → W'.cell? ⟨b, o + i * 6 + j, none⟩ = some u) ∧ Reads W' (.slice x.d1 x.d2 x.d3) x.data := by
  obtain ⟨ao', c', e, hc⟩ := h
  simp only [Value.slice.injEq] at e
  obtain ⟨rfl, rfl, rfl⟩ := e
  rcases hc with rfl | ⟨b, o, rfl, hlt, hall⟩
  · simp at hx
  · obtain ⟨h1, h2⟩ := hall i x hx
    exact ⟨b, o, rfl, hlt, fun j u hu => cell_under hb hlt (h1 j u hu), h2.below hb⟩

end Go.Proofs.Ytaomhahmpbfjhaa

import Derived.Test.YtmpbdncgilahkaaPt
import Derived.Test.YtmpbdncgilahkaaRound
import Derived.WideShapes
namespace Go.Proofs.Ytmpbdncgilahkaa
open Go.RowKit
set_option linter.unusedVariables false

/-- The boxes of 'all': the three tallies, how many, the answer, where it is, how many were told. -/
structure AB (w : World) (t : Tg) (most : Int) (W : World) (p c : Nat) : Prop where
  th : W.heap[w.heap.size]? = some (.cells #[.pointer (some ⟨t.a, 0, none⟩), .pointer (some ⟨t.b, 0, none⟩), .pointer (some ⟨t.f.r, 0, none⟩)] 42 (0, 0))
  mo : Boxed W (w.heap.size + 1) 3 (.int .i64 most)
  re : Boxed W (w.heap.size + 1 + 1) 4 (.bool false)
  wh : Boxed W (w.heap.size + 1 + 1 + 1) 3 (.int .i64 p)
  tl : Boxed W (w.heap.size + 1 + 1 + 1 + 1) 3 (.int .i64 c)
  be : Below w.heap.size w W

section
variable {w W : World} {t : Tg} {most : Int} {p c : Nat}
theorem AB.grown {W' : World} {row : Option Nat} (h : AB w t most W p c) (hg : W.grownBy W' row) (hr : ∀ r, row = some r → w.heap.size + 5 ≤ r) : AB w t most W' p c := by
  have hne : ∀ k, k < w.heap.size + 5 → some k ≠ row := fun k hk e => by have := hr k e.symm; omega
  have hlt := h.tl.lt
  exact ⟨(hg.block _ (by omega) (hne _ (by omega))).trans h.th, h.mo.kept hg (hne _ (by omega)), h.re.kept hg (hne _ (by omega)), h.wh.kept hg (hne _ (by omega)), h.tl.kept hg (hne _ (by omega)), h.be.grown hg h.be.size (fun k e => by have := hr k e; omega)⟩
theorem AB.below {W' : World} (h : AB w t most W p c) (hb : Below W.heap.size W W') : AB w t most W' p c := by
  have hlt := h.tl.lt
  exact ⟨(hb.block _ (by omega)).trans h.th, (hb.block _ h.mo.lt).trans h.mo, (hb.block _ h.re.lt).trans h.re, (hb.block _ h.wh.lt).trans h.wh, (hb.block _ h.tl.lt).trans h.tl, h.be.trans (hb.mono h.be.size)⟩
theorem AB.drewN (h : AB w t most W p c) (q : Nat) : AB w t most (W.drewN q) p c := ⟨h.th, h.mo, h.re, h.wh, h.tl, ⟨h.be.os, h.be.tape, h.be.output, h.be.size, h.be.block⟩⟩
theorem AB.setW (h : AB w t most W p c) (k : Nat) : AB w t most (W.setCell ⟨w.heap.size + 1 + 1 + 1, 0, none⟩ (.int .i64 k)) k c :=
  ⟨(other_set W 0 _ (by omega)).trans h.th, (other_set W 0 _ (by omega)).trans h.mo, (other_set W 0 _ (by omega)).trans h.re, h.wh.set _, (other_set W 0 _ (by omega)).trans h.tl, h.be.setCell (p := ⟨w.heap.size + 1 + 1 + 1, 0, none⟩) (by simp only; omega) _⟩
theorem AB.setT (h : AB w t most W p c) (k : Nat) : AB w t most (W.setCell ⟨w.heap.size + 1 + 1 + 1 + 1, 0, none⟩ (.int .i64 k)) p k :=
  ⟨(other_set W 0 _ (by omega)).trans h.th, (other_set W 0 _ (by omega)).trans h.mo, (other_set W 0 _ (by omega)).trans h.re, (other_set W 0 _ (by omega)).trans h.wh, h.tl.set _, h.be.setCell (p := ⟨w.heap.size + 1 + 1 + 1 + 1, 0, none⟩) (by simp only; omega) _⟩
theorem AB.c2 (h : AB w t most W p c) : W.cell? ⟨w.heap.size, 2, none⟩ = some (.pointer (some ⟨t.f.r, 0, none⟩)) := by rw [cell_at h.th]; rfl
theorem AB.c1 (h : AB w t most W p c) : W.cell? ⟨w.heap.size, 1, none⟩ = some (.pointer (some ⟨t.b, 0, none⟩)) := by rw [cell_at h.th]; rfl
theorem AB.rf (h : AB w t most W p c) (hr : Rf w t.f) : Rf W t.f := hr.later h.be
end

theorem keeps_drewN (W : World) (q : Nat) : KeepsOthers W (W.drewN q) := ⟨Nat.le_refl _, fun _ _ h _ => h⟩

theorem keeps_below {W W' : World} (h : Below W.heap.size W W') : KeepsOthers W W' := ⟨h.size, fun k o hk _ => (h.block k (Array.getElem?_eq_some_iff.1 hk).1).trans hk⟩
theorem wsT_len {f : Rfs} (hl : f.said.length = f.spoke.length) : (said 0 (wsT f)).length = cnt f.spoke := by
  unfold wsT; rw [said_map, List.length_map, said_wsOf hl, said_opt 0 _ _ hl]
theorem wsOf_len {f : Rfs} (hl : f.said.length = f.spoke.length) : (said 0 (wsOf f)).length = cnt f.spoke := by
  rw [said_wsOf hl, said_opt 0 _ _ hl]
def optT (f : Rfs) : List (Option ByteArray) := (opt f.said f.spoke).map (Option.map txt)
theorem said_wsT {f : Rfs} : said 0 (wsT f) = said 0 (optT f) := by
  unfold wsT optT wsOf; rw [List.map_append, List.map_replicate, said_append]
  rw [show Option.map txt none = none from rfl, said_nones, List.append_nil]
theorem optT_at {f : Rfs} {p : Nat} {v : Int} {b : Bool} (h : (opt f.said f.spoke)[p]? = some (bif b then some v else none)) : (optT f)[p]? = some (bif b then some (txt v) else none) := by
  unfold optT; rw [List.getElem?_map, h]; cases b <;> rfl

theorem tl_inj {x y : ByteArray} (h : x.toList = y.toList) : x = y := by
  rw [ByteArray.toList_eq, ByteArray.toList_eq] at h
  exact Go.WideShapes.bytes_inj h

/-- Where it is, read off the world. -/
def whoIn (n B : Nat) (W : World) : Nat := match W.cell? ⟨B, 0, none⟩ with | some (.int _ i) => ((n : Int) - i).toNat | _ => 0
theorem whoIn_eq {n B p : Nat} {W : World} (h : Boxed W B 3 (.int .i64 p)) : whoIn n B W = n - p := by
  unfold whoIn; rw [h.cell]; simp

theorem opt_at {f : Rfs} (h1 : f.said.length = f.n) (h2 : f.spoke.length = f.n) {p : Nat} (hp : p < f.n) : ∃ v b, f.said[p]? = some v ∧ f.spoke[p]? = some b ∧ (opt f.said f.spoke)[p]? = some (bif b then some v else none) := by
  obtain ⟨v, hv⟩ : ∃ v, f.said[p]? = some v := ⟨_, List.getElem?_eq_getElem (by omega)⟩
  obtain ⟨b, hb⟩ : ∃ b, f.spoke[p]? = some b := ⟨_, List.getElem?_eq_getElem (by omega)⟩
  exact ⟨v, b, hv, hb, opt_get _ _ _ _ _ hv hb⟩
theorem said_stop {α : Type} {ws : List (Option α)} {p : Nat} {x : Int × α} (hp : ws.length ≤ p) : ¬ said 0 (ws.take p) ++ [x] <+: said 0 ws := by
  rw [List.take_of_length_le hp]
  intro h
  have := h.length_le
  simp at this
  omega
theorem said_next {α : Type} {ws : List (Option α)} {p : Nat} {v : α} {x : Int × α} (hp : ws[p]? = some (some v)) (h : said 0 (ws.take p) ++ [x] <+: said 0 ws) : x = ((p : Int), v) := by
  have e := said_take hp
  have hpre := said_prefix ws (p + 1)
  rw [e, show said p [some v] = [((p : Int), v)] from rfl] at hpre
  obtain ⟨r, hr⟩ := hpre
  rw [← hr, List.append_assoc] at h
  have h2 := (List.prefix_append_right_inj _).1 h
  have := List.cons_prefix_cons.1 h2
  exact this.1
end Go.Proofs.Ytmpbdncgilahkaa

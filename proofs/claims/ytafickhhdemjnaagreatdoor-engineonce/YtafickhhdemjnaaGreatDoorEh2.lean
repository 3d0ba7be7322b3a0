import Derived.Test.YtafickhhdemjnaaGreatDoorJ4
import Derived.Test.YtafickhhdemjnaaGreatDoorJ24
namespace Go.Proofs.YtafickhhdemjnaaGreatDoor
open Go.ChangeShapes Go.WideShapes Go.ChangeAt Go.RowKit Go.Deep Go.Joins
set_option linter.unusedVariables false

/-- An entry. -/
structure En where
  c : Int
  q : Int
  k : Int
  nm : ByteArray
  tx : ByteArray
  n : Int
  m : Int
def En.cells (x : En) : List Value := [.int .i64 x.c, .int .i64 x.q, .int .i64 x.k, .string x.nm, .string x.tx, .int .i64 x.n, .int .i64 x.m]
theorem En.len (x : En) : x.cells.length = 7 := rfl
/-- Entries that came in. -/
def EntsW (w : World) (v : Value) (l : List En) : Prop := ∃ ao c, v = .slice ao l.length c ∧ l.length ≤ c ∧ (ao = none → l = [] ∧ c = 0) ∧ ∀ (i : Nat) (x : En), l[i]? = some x → ∃ g o, ao = some ⟨g, o, none⟩ ∧ g < w.heap.size ∧ w.rangeAt g (o + i * 7) x.cells
theorem EntsW.later {w w' : World} {v : Value} {l : List En} (h : EntsW w v l) (hb : Below w.heap.size w w') : EntsW w' v l := by
  obtain ⟨ao, c, h1, h2, h3, h4⟩ := h
  refine ⟨ao, c, h1, h2, h3, fun i x hx => ?_⟩
  obtain ⟨g, o, e, hg, hr⟩ := h4 i x hx
  exact ⟨g, o, e, Nat.lt_of_lt_of_le hg hb.size, fun j v hv => cell_under hb hg (hr j v hv)⟩
theorem EntsW.form {w : World} {v : Value} {l : List En} (h : EntsW w v l) : ∃ ao c, v = .slice ao l.length c := by
  obtain ⟨ao, c, h1, _⟩ := h
  exact ⟨ao, c, h1⟩
/-- An entry's cells, one by one. -/
theorem EntsW.cells {w W : World} {ao : Option Addr} {n c : Nat} {l : List En} (h : EntsW w (.slice ao n c) l) (hb : Below w.heap.size w W) {i : Nat} {x : En} (hx : l[i]? = some x) : ∃ g o, ao = some ⟨g, o, none⟩ ∧
    W.cell? ⟨g, o + i * 7, none⟩ = some (.int .i64 x.c) ∧ W.cell? ⟨g, o + i * 7 + 1, none⟩ = some (.int .i64 x.q) ∧ W.cell? ⟨g, o + i * 7 + 2, none⟩ = some (.int .i64 x.k) ∧ W.cell? ⟨g, o + i * 7 + 3, none⟩ = some (.string x.nm) ∧ W.cell? ⟨g, o + i * 7 + 4, none⟩ = some (.string x.tx) ∧ W.cell? ⟨g, o + i * 7 + 5, none⟩ = some (.int .i64 x.n) ∧ W.cell? ⟨g, o + i * 7 + 6, none⟩ = some (.int .i64 x.m) := by
  obtain ⟨ao', c', h1, h2, h3, h4⟩ := h
  simp only [Value.slice.injEq] at h1
  obtain ⟨rfl, _, _⟩ := h1
  obtain ⟨g, o, e, hg, hr⟩ := h4 i x hx
  have key : ∀ j u, x.cells[j]? = some u → W.cell? ⟨g, o + i * 7 + j, none⟩ = some u := fun j u hu => cell_under hb hg (hr j u hu)
  exact ⟨g, o, e, key 0 _ rfl, key 1 _ rfl, key 2 _ rfl, key 3 _ rfl, key 4 _ rfl, key 5 _ rfl, key 6 _ rfl⟩

theorem Tryz.cells36 : Tryz.prog.cellsOf 36 = 7 := by kernel_rfl
theorem Tryz.bytes36 : Tryz.prog.bytesOf 36 = 72 := by kernel_rfl
theorem reach_numE : reachBytes = 140737488351232 := by decide
theorem choose_ltE {α : Type} [Inhabited α] {n : Nat} {P : Nat → α → Prop} (h : ∀ i, i < n → ∃ x, P i x) : ∃ f : Nat → α, ∀ i, i < n → P i (f i) := by
  classical
  refine ⟨fun i => if hi : i < n then Classical.choose (h i hi) else default, fun i hi => ?_⟩
  simp only [hi, dif_pos]
  exact Classical.choose_spec (h i hi)
theorem spot_ofE {a : Addr} {W : World} {u : Value} (h : W.cell? (a.add 0) = some u) : a.spot = none ∧ a.block < W.heap.size := by
  have h1 := World.cell?_spot h
  have h2 := World.block_lt_of_cell? W _ h
  exact ⟨by simpa [Addr.add] using h1, by simpa [Addr.add] using h2⟩
theorem list7E {l : List Value} {a b c d e f g : Value} (hl : l.length = 7) (h0 : (l.drop 0).take 1 = [a]) (h1 : (l.drop 1).take 1 = [b]) (h2 : (l.drop 2).take 5 = [c, d, e, f, g]) : l = [a, b, c, d, e, f, g] := by
  match l, hl with
  | [x0, x1, x2, x3, x4, x5, x6], _ => simp at h0 h1 h2; simp [h0, h1, h2]
section
variable {H : Type} {enc : TypeId × Value → H} {W : World} {fuel : Nat} {cs : List Value} {x : DataW H × List MemPlace}

set_option maxRecDepth 100000 in
theorem ent_cells (h : DataW.trod enc Tryz.prog W 0 (fun _ => true) true fuel 36 cs = some x) : ∃ e : En, cs = e.cells := by
  obtain ⟨xs, f, _, rfl, hl, hlen, hf⟩ := DataW.trod_struct Tryz.underlying36 h
  have hlen : xs.length = 3 := hlen
  obtain ⟨y0, hy0⟩ := nth hlen (i := 0) (by omega)
  obtain ⟨y1, hy1⟩ := nth hlen (i := 1) (by omega)
  obtain ⟨y2, hy2⟩ := nth hlen (i := 2) (by omega)
  have g0 : DataW.trod enc Tryz.prog W 0 (fun _ => true) true f 3 ((cs.drop 0).take (Tryz.prog.cellsOf 3)) = some y0 := (hf 0 _ rfl).trans hy0
  have g1 : DataW.trod enc Tryz.prog W 0 (fun _ => true) true f 3 ((cs.drop 1).take (Tryz.prog.cellsOf 3)) = some y1 := (hf 1 _ rfl).trans hy1
  have g2 : DataW.trod enc Tryz.prog W 0 (fun _ => true) true f 34 ((cs.drop 2).take (Tryz.prog.cellsOf 34)) = some y2 := (hf 2 _ rfl).trans hy2
  rw [Tryz.cells3] at g0 g1
  rw [Tryz.cells34] at g2
  rw [Tryz.cells36] at hl
  obtain ⟨c, e0, _, _⟩ := DataW.trod_int Tryz.underlying3 g0
  obtain ⟨n, e1, _, _⟩ := DataW.trod_int Tryz.underlying3 g1
  obtain ⟨k, nm, tx, m, q, e2, _⟩ := op_cells g2
  exact ⟨⟨c, n, k, nm, tx, m, q⟩, list7E hl e0 e1 e2⟩

set_option maxRecDepth 100000 in
/-- Entries that came in. -/
theorem ents_cells (h : DataW.trod enc Tryz.prog W 0 (fun _ => true) true fuel 47 cs = some x) (hz : ∀ n ∈ x.1.weights Tryz.prog 47, n ≤ reachBytes) : ∃ s l, cs = [s] ∧ EntsW W s l ∧ l.length * 72 ≤ 140737488351232 := by
  rcases open_slice Tryz.underlying47 h with ⟨hcs, hx⟩ | ⟨a, len, cap, m, n, D, Pl, hcs, _, hl, hm, hmm, hx, hel⟩
  · exact ⟨_, [], hcs, ⟨none, 0, rfl, by simp, fun _ => ⟨rfl, rfl⟩, fun i x hx => by simp at hx⟩, by simp⟩
  · have hlm : len ≤ m := by rw [hmm]; split <;> omega
    have each : ∀ i, i < len → ∃ e : En, ∀ j u, e.cells[j]? = some u → W.cell? (a.add (i * 7 + j)) = some u := by
      intro i hi
      obtain ⟨cs', h1, h2⟩ := hel i (by omega)
      rw [Tryz.cells36] at h1
      obtain ⟨_, hlen, hcell⟩ := World.cells?_some h1
      obtain ⟨e, rfl⟩ := ent_cells h2
      refine ⟨e, fun j u hu => ?_⟩
      have hj : j < 7 := by
        have := (List.getElem?_eq_some_iff.1 hu).1
        rwa [e.len] at this
      have q := hcell j (by omega)
      rw [add_add] at q
      rw [q, ← hu]
    haveI : Inhabited En := ⟨⟨0, 0, 0, ⟨#[]⟩, ⟨#[]⟩, 0, 0⟩⟩
    obtain ⟨f, hf'⟩ := choose_ltE each
    have hw : len * 72 ≤ 140737488351232 := by
      have := hz ((len + (m - len)) * 72) (by
        rw [hx]
        simp [DataW.weights, Tryz.underlying47, Tryz.bytes36])
      rw [reach_numE] at this
      omega
    refine ⟨_, (List.range len).map f, hcs, ⟨some a, cap, by simp, by simpa using hl, (fun h => by cases h), fun i e he => ?_⟩, by simpa using hw⟩
    have hi : i < len := by
      have := (List.getElem?_eq_some_iff.1 he).1
      simpa using this
    obtain rfl : f i = e := by
      rw [List.getElem?_map, List.getElem?_range hi] at he
      simpa using he
    have h00 := hf' 0 (by omega) 0 _ rfl
    obtain ⟨hsp, hb⟩ := spot_ofE (by simpa using h00)
    obtain ⟨b, off, sp⟩ := a
    simp only at hsp
    subst hsp
    refine ⟨b, off, rfl, hb, fun j u hu => ?_⟩
    have := hf' i hi j u hu
    rw [Addr.add_lit] at this
    rw [Nat.add_assoc]
    exact this

/-- Entries that came in, as an argument. -/
theorem open_ents {v : Value} {d : DataW H} {p : List MemPlace} (h : DataW.Trod enc Tryz.prog W 0 (fun _ => true) true 47 v d p) (hv : ∃ a l c, v = .slice a l c) (hz : ∀ n ∈ d.weights Tryz.prog 47, n ≤ reachBytes) :
    ∃ l, EntsW W v l ∧ l.length * 72 ≤ 140737488351232 := by
  obtain ⟨fuel, hf⟩ := h
  obtain ⟨a0, l0, c0, rfl⟩ := hv
  obtain ⟨s, l, e, h1, h2⟩ := ents_cells hf hz
  simp [Value.cells] at e
  subst e
  exact ⟨l, h1, h2⟩
end
end Go.Proofs.YtafickhhdemjnaaGreatDoor

import Derived.Test.YtjnbnmlggbfodaaLaid
import Derived.Test.YtjnbnmlggbfodaaBase
namespace Go.Proofs.Ytjnbnmlggbfodaa
open Go.ChangeShapes Go.WideShapes Go.ChangeAt Go.RowKit Go.Deep Go.Joins
set_option linter.unusedVariables false

theorem Try.cellsOf3 : Try.prog.cellsOf 3 = 1 := by kernel_rfl
theorem Try.cellsOf4 : Try.prog.cellsOf 4 = 1 := by kernel_rfl
theorem Try.cellsOf27 : Try.prog.cellsOf 27 = 4 := by kernel_rfl
theorem Try.cellsOf33 : Try.prog.cellsOf 33 = 3 := by kernel_rfl
theorem Try.bytesOf3 : Try.prog.bytesOf 3 = 8 := by kernel_rfl
theorem Try.bytesOf27 : Try.prog.bytesOf 27 = 32 := by kernel_rfl
theorem Try.bytesOf33 : Try.prog.bytesOf 33 = 24 := by kernel_rfl
theorem nth {α : Type} {l : List α} {n i : Nat} (hl : l.length = n) (hi : i < n) : ∃ y, l[i]? = some y := ⟨_, List.getElem?_eq_getElem (by omega)⟩
theorem choose_lt {α : Type} [Inhabited α] {n : Nat} {P : Nat → α → Prop} (h : ∀ i, i < n → ∃ x, P i x) : ∃ f : Nat → α, ∀ i, i < n → P i (f i) := by
  classical
  refine ⟨fun i => if hi : i < n then Classical.choose (h i hi) else default, fun i hi => ?_⟩
  simp only [hi, dif_pos]
  exact Classical.choose_spec (h i hi)
theorem spot_of {a : Addr} {W : World} {u : Value} (h : W.cell? (a.add 0) = some u) : a.spot = none ∧ a.block < W.heap.size := by
  have h1 := World.cell?_spot h
  have h2 := World.block_lt_of_cell? W _ h
  exact ⟨by simpa [Addr.add] using h1, by simpa [Addr.add] using h2⟩
theorem reach_num : reachBytes = 140737488351232 := by decide
theorem list4 {l : List Value} {a b c d : Value} (hl : l.length = 4) (h0 : (l.drop 0).take 1 = [a]) (h1 : (l.drop 1).take 1 = [b]) (h2 : (l.drop 2).take 1 = [c]) (h3 : (l.drop 3).take 1 = [d]) : l = [a, b, c, d] := by
  match l, hl with
  | [x0, x1, x2, x3], _ => simp at h0 h1 h2 h3; simp [h0, h1, h2, h3]
theorem list3 {l : List Value} {a b c : Value} (hl : l.length = 3) (h0 : (l.drop 0).take 1 = [a]) (h1 : (l.drop 1).take 1 = [b]) (h2 : (l.drop 2).take 1 = [c]) : l = [a, b, c] := by
  match l, hl with
  | [x0, x1, x2], _ => simp at h0 h1 h2; simp [h0, h1, h2]
section
variable {H : Type} {enc : TypeId × Value → H} {W : World} {fuel : Nat} {cs : List Value} {x : DataW H × List MemPlace}

set_option maxRecDepth 100000 in
theorem bal_cells (h : DataW.trod enc Try.prog W 0 (fun _ => true) true fuel 27 cs = some x) : ∃ e : Bal, cs = e.cells := by
  obtain ⟨xs, f, _, rfl, hl, hlen, hf⟩ := DataW.trod_struct Try.underlying27 h
  have hlen : xs.length = 4 := hlen
  obtain ⟨y0, hy0⟩ := nth hlen (i := 0) (by omega)
  obtain ⟨y1, hy1⟩ := nth hlen (i := 1) (by omega)
  obtain ⟨y2, hy2⟩ := nth hlen (i := 2) (by omega)
  obtain ⟨y3, hy3⟩ := nth hlen (i := 3) (by omega)
  have g0 : DataW.trod enc Try.prog W 0 (fun _ => true) true f 3 ((cs.drop 0).take (Try.prog.cellsOf 3)) = some y0 := (hf 0 _ rfl).trans hy0
  have g1 : DataW.trod enc Try.prog W 0 (fun _ => true) true f 3 ((cs.drop 1).take (Try.prog.cellsOf 3)) = some y1 := (hf 1 _ rfl).trans hy1
  have g2 : DataW.trod enc Try.prog W 0 (fun _ => true) true f 3 ((cs.drop 2).take (Try.prog.cellsOf 3)) = some y2 := (hf 2 _ rfl).trans hy2
  have g3 : DataW.trod enc Try.prog W 0 (fun _ => true) true f 3 ((cs.drop 3).take (Try.prog.cellsOf 3)) = some y3 := (hf 3 _ rfl).trans hy3
  rw [Try.cellsOf3] at g0 g1 g2 g3
  rw [Try.cellsOf27] at hl
  obtain ⟨a, e0, _, _⟩ := DataW.trod_int Try.underlying3 g0
  obtain ⟨b, e1, _, _⟩ := DataW.trod_int Try.underlying3 g1
  obtain ⟨c, e2, _, _⟩ := DataW.trod_int Try.underlying3 g2
  obtain ⟨d, e3, _, _⟩ := DataW.trod_int Try.underlying3 g3
  exact ⟨⟨a, b, c, d⟩, list4 hl e0 e1 e2 e3⟩
set_option maxRecDepth 100000 in
theorem wit_cells (h : DataW.trod enc Try.prog W 0 (fun _ => true) true fuel 33 cs = some x) : ∃ e : Wit, cs = e.cells := by
  obtain ⟨xs, f, _, rfl, hl, hlen, hf⟩ := DataW.trod_struct Try.underlying33 h
  have hlen : xs.length = 3 := hlen
  obtain ⟨y0, hy0⟩ := nth hlen (i := 0) (by omega)
  obtain ⟨y1, hy1⟩ := nth hlen (i := 1) (by omega)
  obtain ⟨y2, hy2⟩ := nth hlen (i := 2) (by omega)
  have g0 : DataW.trod enc Try.prog W 0 (fun _ => true) true f 3 ((cs.drop 0).take (Try.prog.cellsOf 3)) = some y0 := (hf 0 _ rfl).trans hy0
  have g1 : DataW.trod enc Try.prog W 0 (fun _ => true) true f 3 ((cs.drop 1).take (Try.prog.cellsOf 3)) = some y1 := (hf 1 _ rfl).trans hy1
  have g2 : DataW.trod enc Try.prog W 0 (fun _ => true) true f 4 ((cs.drop 2).take (Try.prog.cellsOf 4)) = some y2 := (hf 2 _ rfl).trans hy2
  rw [Try.cellsOf3] at g0 g1
  rw [Try.cellsOf4] at g2
  rw [Try.cellsOf33] at hl
  obtain ⟨a, e0, _, _⟩ := DataW.trod_int Try.underlying3 g0
  obtain ⟨b, e1, _, _⟩ := DataW.trod_int Try.underlying3 g1
  obtain ⟨c, e2, _⟩ := DataW.trod_bool Try.underlying4 g2
  exact ⟨⟨a, b, c⟩, list3 hl e0 e1 e2⟩

set_option maxRecDepth 100000 in
theorem open_bal {v : Value} {d : DataW H} {p : List MemPlace} (h : DataW.Trod enc Try.prog W 0 (fun _ => true) true 22 v d p) (hv : ∃ a l c, v = .slice a l c) (hz : ∀ n ∈ d.weights Try.prog 22, n ≤ reachBytes) : ∃ l, BalsAt W v l ∧ l.length * 32 ≤ 140737488351232 := by
  obtain ⟨fuel, hf⟩ := h
  obtain ⟨a0, l0, c0, rfl⟩ := hv
  rcases open_slice Try.underlying22 hf with ⟨hcs, hx⟩ | ⟨a, len, cap, m, n, D, Pl, hcs, _, hl, hm, hmm, hx, hel⟩
  · simp [Value.cells] at hcs
    obtain ⟨rfl, rfl, rfl⟩ := hcs
    exact ⟨[], ⟨none, 0, rfl, by simp, fun _ => ⟨rfl, rfl⟩, fun i x hx => by simp at hx⟩, by simp⟩
  · simp [Value.cells] at hcs
    obtain ⟨rfl, rfl, rfl⟩ := hcs
    have hlm : l0 ≤ m := by rw [hmm]; split <;> omega
    simp only [Prod.mk.injEq] at hx
    obtain ⟨rfl, _⟩ := hx
    have hw : l0 * 32 ≤ 140737488351232 := by
      have := hz ((l0 + (m - l0)) * 32) (by
        simp [DataW.weights, Try.underlying22, Try.bytesOf27])
      rw [reach_num] at this
      omega
    have each : ∀ i, i < l0 → ∃ x : Bal, ∀ j u, x.cells[j]? = some u → W.cell? (a.add (i * 4 + j)) = some u := by
      intro i hi
      obtain ⟨cs', h1, h2⟩ := hel i (by omega)
      rw [Try.cellsOf27] at h1
      obtain ⟨_, hlen, hcell⟩ := World.cells?_some h1
      obtain ⟨e, rfl⟩ := bal_cells h2
      refine ⟨e, fun j u hu => ?_⟩
      have hj : j < 4 := by
        have := (List.getElem?_eq_some_iff.1 hu).1
        rwa [e.len] at this
      have q := hcell j (by omega)
      rw [add_add] at q
      rw [q, ← hu]
    haveI : Inhabited Bal := ⟨Bal.zero⟩
    obtain ⟨f, hf'⟩ := choose_lt each
    refine ⟨(List.range l0).map f, ⟨some a, c0, by simp, by simpa using hl, (fun h => by cases h), fun i x hx => ?_⟩, by simpa using hw⟩
    have hi : i < l0 := by
      have := (List.getElem?_eq_some_iff.1 hx).1
      simpa using this
    obtain rfl : f i = x := by
      rw [List.getElem?_map, List.getElem?_range hi] at hx
      simpa using hx
    have h00 := hf' 0 (by omega) 0 _ rfl
    obtain ⟨hsp, hb⟩ := spot_of (by simpa using h00)
    obtain ⟨b, off, sp⟩ := a
    simp only at hsp
    subst hsp
    refine ⟨b, off, rfl, hb, fun j u hu => ?_⟩
    have := hf' i hi j u hu
    rw [Addr.add_lit] at this
    rw [Nat.add_assoc]
    exact this

set_option maxRecDepth 100000 in
theorem open_wit {v : Value} {d : DataW H} {p : List MemPlace} (h : DataW.Trod enc Try.prog W 0 (fun _ => true) true 29 v d p) (hv : ∃ a l c, v = .slice a l c) (hz : ∀ n ∈ d.weights Try.prog 29, n ≤ reachBytes) : ∃ l, WitsAt W v l ∧ l.length * 24 ≤ 140737488351232 := by
  obtain ⟨fuel, hf⟩ := h
  obtain ⟨a0, l0, c0, rfl⟩ := hv
  rcases open_slice Try.underlying29 hf with ⟨hcs, hx⟩ | ⟨a, len, cap, m, n, D, Pl, hcs, _, hl, hm, hmm, hx, hel⟩
  · simp [Value.cells] at hcs
    obtain ⟨rfl, rfl, rfl⟩ := hcs
    exact ⟨[], ⟨none, 0, rfl, by simp, fun _ => ⟨rfl, rfl⟩, fun i x hx => by simp at hx⟩, by simp⟩
  · simp [Value.cells] at hcs
    obtain ⟨rfl, rfl, rfl⟩ := hcs
    have hlm : l0 ≤ m := by rw [hmm]; split <;> omega
    simp only [Prod.mk.injEq] at hx
    obtain ⟨rfl, _⟩ := hx
    have hw : l0 * 24 ≤ 140737488351232 := by
      have := hz ((l0 + (m - l0)) * 24) (by
        simp [DataW.weights, Try.underlying29, Try.bytesOf33])
      rw [reach_num] at this
      omega
    have each : ∀ i, i < l0 → ∃ x : Wit, ∀ j u, x.cells[j]? = some u → W.cell? (a.add (i * 3 + j)) = some u := by
      intro i hi
      obtain ⟨cs', h1, h2⟩ := hel i (by omega)
      rw [Try.cellsOf33] at h1
      obtain ⟨_, hlen, hcell⟩ := World.cells?_some h1
      obtain ⟨e, rfl⟩ := wit_cells h2
      refine ⟨e, fun j u hu => ?_⟩
      have hj : j < 3 := by
        have := (List.getElem?_eq_some_iff.1 hu).1
        rwa [e.len] at this
      have q := hcell j (by omega)
      rw [add_add] at q
      rw [q, ← hu]
    haveI : Inhabited Wit := ⟨Wit.zero⟩
    obtain ⟨f, hf'⟩ := choose_lt each
    refine ⟨(List.range l0).map f, ⟨some a, c0, by simp, by simpa using hl, (fun h => by cases h), fun i x hx => ?_⟩, by simpa using hw⟩
    have hi : i < l0 := by
      have := (List.getElem?_eq_some_iff.1 hx).1
      simpa using this
    obtain rfl : f i = x := by
      rw [List.getElem?_map, List.getElem?_range hi] at hx
      simpa using hx
    have h00 := hf' 0 (by omega) 0 _ rfl
    obtain ⟨hsp, hb⟩ := spot_of (by simpa using h00)
    obtain ⟨b, off, sp⟩ := a
    simp only at hsp
    subst hsp
    refine ⟨b, off, rfl, hb, fun j u hu => ?_⟩
    have := hf' i hi j u hu
    rw [Addr.add_lit] at this
    rw [Nat.add_assoc]
    exact this
end
end Go.Proofs.Ytjnbnmlggbfodaa

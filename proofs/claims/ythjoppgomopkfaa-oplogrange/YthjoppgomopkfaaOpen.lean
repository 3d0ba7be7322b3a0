import Derived.Test.YthjoppgomopkfaaLaid
import Derived.Test.YthjoppgomopkfaaActs
namespace Go.Proofs.Ythjoppgomopkfaa
open Go.ChangeShapes Go.WideShapes Go.ChangeAt Go.RowKit Go.Deep Go.Joins
set_option linter.unusedVariables false

theorem Try.cellsOf3 : Try.prog.cellsOf 3 = 1 := by kernel_rfl
theorem Try.cellsOf9 : Try.prog.cellsOf 9 = 1 := by kernel_rfl
theorem Try.cellsOf37 : Try.prog.cellsOf 37 = 5 := by kernel_rfl
theorem Try.cellsOf39 : Try.prog.cellsOf 39 = 7 := by kernel_rfl
theorem Try.cellsOf40 : Try.prog.cellsOf 40 = 1 := by kernel_rfl
theorem Try.cellsOf42 : Try.prog.cellsOf 42 = 12 := by kernel_rfl
theorem Try.bytesOf39 : Try.prog.bytesOf 39 = 72 := by kernel_rfl
theorem Try.bytesOf42 : Try.prog.bytesOf 42 = 128 := by kernel_rfl

theorem i64_wf {n : Int} (h : (Lit.int .i64 n).wf = true) : i64In n := by
  have : -9223372036854775808 ≤ n ∧ n ≤ 9223372036854775807 := by simpa [Lit.wf, IntKind.min, IntKind.max, IntKind.signed, IntKind.bits] using h
  unfold i64In
  omega
theorem nth {α : Type} {l : List α} {n i : Nat} (hl : l.length = n) (hi : i < n) : ∃ y, l[i]? = some y := ⟨_, List.getElem?_eq_getElem (by omega)⟩
theorem choose_lt {α : Type} [Inhabited α] {n : Nat} {P : Nat → α → Prop} (h : ∀ i, i < n → ∃ x, P i x) : ∃ f : Nat → α, ∀ i, i < n → P i (f i) := by
  classical
  refine ⟨fun i => if hi : i < n then Classical.choose (h i hi) else default, fun i hi => ?_⟩
  simp only [hi, dif_pos]
  exact Classical.choose_spec (h i hi)
theorem spot_of {a : Addr} {W : World} {u : Value} (h : W.cell? (a.add 0) = some u) : a.spot = none ∧ a.block < W.heap.size := by
  have h1 := World.cell?_spot h
  have h2 := World.block_lt_of_cell? W _ h
  exact ⟨by simpa [Addr.add] using h1, by simpa [Addr.add] using h2⟩
theorem open_i64 {H : Type} {enc : TypeId × Value → H} {W : World} {n : Int} {d : DataW H} {p : List MemPlace} (h : DataW.Trod enc Try.prog W 0 (fun _ => true) true 3 (.int .i64 n) d p) : i64In n := by
  obtain ⟨fuel, hf⟩ := h
  obtain ⟨k, e, _, hw⟩ := DataW.trod_int Try.underlying3 hf
  simp only [Value.cells, List.cons.injEq, Value.int.injEq, and_true, true_and] at e
  subst e
  exact i64_wf hw

theorem list5 {l : List Value} {a b c d e : Value} (hl : l.length = 5) (h0 : (l.drop 0).take 1 = [a]) (h1 : (l.drop 1).take 1 = [b]) (h2 : (l.drop 2).take 1 = [c]) (h3 : (l.drop 3).take 1 = [d]) (h4 : (l.drop 4).take 1 = [e]) : l = [a, b, c, d, e] := by
  match l, hl with
  | [x0, x1, x2, x3, x4], _ => simp at h0 h1 h2 h3 h4; simp [h0, h1, h2, h3, h4]
theorem list7 {l : List Value} {a b c d e f g : Value} (hl : l.length = 7) (h0 : (l.drop 0).take 1 = [a]) (h1 : (l.drop 1).take 1 = [b]) (h2 : (l.drop 2).take 5 = [c, d, e, f, g]) : l = [a, b, c, d, e, f, g] := by
  match l, hl with
  | [x0, x1, x2, x3, x4, x5, x6], _ => simp at h0 h1 h2; simp [h0, h1, h2]
theorem list12 {l : List Value} {a b c d f : Value} {e : List Value} (hl : l.length = 12) (h0 : (l.drop 0).take 1 = [a]) (h1 : (l.drop 1).take 1 = [b]) (h2 : (l.drop 2).take 1 = [c]) (h3 : (l.drop 3).take 1 = [d]) (h4 : (l.drop 4).take 7 = e) (h9 : (l.drop 11).take 1 = [f]) : l = [a, b, c, d] ++ e ++ [f] := by
  match l, hl with
  | [x0, x1, x2, x3, x4, x5, x6, x7, x8, x9, x10, x11], _ => simp at h0 h1 h2 h3 h4 h9; simp [h0, h1, h2, h3, ← h4, h9]

section
variable {H : Type} {enc : TypeId × Value → H} {W : World} {fuel : Nat} {cs : List Value} {x : DataW H × List MemPlace}

set_option maxRecDepth 100000 in
theorem op_cells (h : DataW.trod enc Try.prog W 0 (fun _ => true) true fuel 37 cs = some x) : ∃ k nm tx m q, cs = [.int .i64 k, .string nm, .string tx, .int .i64 m, .int .i64 q] := by
  obtain ⟨xs, f, _, rfl, hl, hlen, hf⟩ := DataW.trod_struct Try.underlying37 h
  have hlen : xs.length = 5 := hlen
  obtain ⟨y0, hy0⟩ := nth hlen (i := 0) (by omega)
  obtain ⟨y1, hy1⟩ := nth hlen (i := 1) (by omega)
  obtain ⟨y2, hy2⟩ := nth hlen (i := 2) (by omega)
  obtain ⟨y3, hy3⟩ := nth hlen (i := 3) (by omega)
  obtain ⟨y4, hy4⟩ := nth hlen (i := 4) (by omega)
  have g0 : DataW.trod enc Try.prog W 0 (fun _ => true) true f 3 ((cs.drop 0).take (Try.prog.cellsOf 3)) = some y0 := (hf 0 _ rfl).trans hy0
  have g1 : DataW.trod enc Try.prog W 0 (fun _ => true) true f 9 ((cs.drop 1).take (Try.prog.cellsOf 9)) = some y1 := (hf 1 _ rfl).trans hy1
  have g2 : DataW.trod enc Try.prog W 0 (fun _ => true) true f 9 ((cs.drop 2).take (Try.prog.cellsOf 9)) = some y2 := (hf 2 _ rfl).trans hy2
  have g3 : DataW.trod enc Try.prog W 0 (fun _ => true) true f 3 ((cs.drop 3).take (Try.prog.cellsOf 3)) = some y3 := (hf 3 _ rfl).trans hy3
  have g4 : DataW.trod enc Try.prog W 0 (fun _ => true) true f 3 ((cs.drop 4).take (Try.prog.cellsOf 3)) = some y4 := (hf 4 _ rfl).trans hy4
  rw [Try.cellsOf3] at g0 g3 g4
  rw [Try.cellsOf9] at g1 g2
  rw [Try.cellsOf37] at hl
  obtain ⟨k, e0, _, _⟩ := DataW.trod_int Try.underlying3 g0
  obtain ⟨nm, e1, _, _⟩ := DataW.trod_string Try.underlying9 g1
  obtain ⟨tx, e2, _, _⟩ := DataW.trod_string Try.underlying9 g2
  obtain ⟨m, e3, _, _⟩ := DataW.trod_int Try.underlying3 g3
  obtain ⟨q, e4, _, _⟩ := DataW.trod_int Try.underlying3 g4
  exact ⟨k, nm, tx, m, q, list5 hl e0 e1 e2 e3 e4⟩

set_option maxRecDepth 100000 in
theorem ent_cells (h : DataW.trod enc Try.prog W 0 (fun _ => true) true fuel 39 cs = some x) : ∃ e : Ent, cs = e.cells := by
  obtain ⟨xs, f, _, rfl, hl, hlen, hf⟩ := DataW.trod_struct Try.underlying39 h
  have hlen : xs.length = 3 := hlen
  obtain ⟨y0, hy0⟩ := nth hlen (i := 0) (by omega)
  obtain ⟨y1, hy1⟩ := nth hlen (i := 1) (by omega)
  obtain ⟨y2, hy2⟩ := nth hlen (i := 2) (by omega)
  have g0 : DataW.trod enc Try.prog W 0 (fun _ => true) true f 3 ((cs.drop 0).take (Try.prog.cellsOf 3)) = some y0 := (hf 0 _ rfl).trans hy0
  have g1 : DataW.trod enc Try.prog W 0 (fun _ => true) true f 3 ((cs.drop 1).take (Try.prog.cellsOf 3)) = some y1 := (hf 1 _ rfl).trans hy1
  have g2 : DataW.trod enc Try.prog W 0 (fun _ => true) true f 37 ((cs.drop 2).take (Try.prog.cellsOf 37)) = some y2 := (hf 2 _ rfl).trans hy2
  rw [Try.cellsOf3] at g0 g1
  rw [Try.cellsOf37] at g2
  rw [Try.cellsOf39] at hl
  obtain ⟨c, e0, _, _⟩ := DataW.trod_int Try.underlying3 g0
  obtain ⟨n, e1, _, _⟩ := DataW.trod_int Try.underlying3 g1
  obtain ⟨k, nm, tx, m, q, e2⟩ := op_cells g2
  exact ⟨⟨c, n, k, nm, tx, m, q⟩, list7 hl e0 e1 e2⟩

theorem reach_num : reachBytes = 140737488351232 := by decide

set_option maxRecDepth 100000 in
/-- Entries that came in. -/
theorem ents_cells (h : DataW.trod enc Try.prog W 0 (fun _ => true) true fuel 40 cs = some x) (hz : ∀ n ∈ x.1.weights Try.prog 40, n ≤ reachBytes) : ∃ s l, cs = [s] ∧ EntsW W s l ∧ l.length * 72 ≤ 140737488351232 := by
  rcases open_slice Try.underlying40 h with ⟨hcs, hx⟩ | ⟨a, len, cap, m, n, D, Pl, hcs, _, hl, hm, hmm, hx, hel⟩
  · exact ⟨_, [], hcs, ⟨none, 0, rfl, by simp, fun _ => ⟨rfl, rfl⟩, fun i x hx => by simp at hx⟩, by simp⟩
  · have hlm : len ≤ m := by rw [hmm]; split <;> omega
    have each : ∀ i, i < len → ∃ e : Ent, ∀ j u, e.cells[j]? = some u → W.cell? (a.add (i * 7 + j)) = some u := by
      intro i hi
      obtain ⟨cs', h1, h2⟩ := hel i (by omega)
      rw [Try.cellsOf39] at h1
      obtain ⟨_, hlen, hcell⟩ := World.cells?_some h1
      obtain ⟨e, rfl⟩ := ent_cells h2
      refine ⟨e, fun j u hu => ?_⟩
      have hj : j < 7 := by
        have := (List.getElem?_eq_some_iff.1 hu).1
        rwa [e.len] at this
      have q := hcell j (by omega)
      rw [add_add] at q
      rw [q, ← hu]
    haveI : Inhabited Ent := ⟨Ent.zero⟩
    obtain ⟨f, hf'⟩ := choose_lt each
    have hw : len * 72 ≤ 140737488351232 := by
      have := hz ((len + (m - len)) * 72) (by
        rw [hx]
        simp [DataW.weights, Try.underlying40, Try.bytesOf39])
      rw [reach_num] at this
      omega
    refine ⟨_, (List.range len).map f, hcs, ⟨some a, cap, by simp, by simpa using hl, (fun h => by cases h), fun i e he => ?_⟩, by simpa using hw⟩
    have hi : i < len := by
      have := (List.getElem?_eq_some_iff.1 he).1
      simpa using this
    obtain rfl : f i = e := by
      rw [List.getElem?_map, List.getElem?_range hi] at he
      simpa using he
    have h00 := hf' 0 (by omega) 0 _ rfl
    obtain ⟨hsp, hb⟩ := spot_of (by simpa using h00)
    obtain ⟨b, off, sp⟩ := a
    simp only at hsp
    subst hsp
    refine ⟨b, off, rfl, hb, fun j u hu => ?_⟩
    have := hf' i hi j u hu
    rw [Addr.add_lit] at this
    rw [Nat.add_assoc]
    exact this

set_option maxRecDepth 100000 in
theorem act0_cells (h : DataW.trod enc Try.prog W 0 (fun _ => true) true fuel 42 cs = some x) (hz : ∀ n ∈ x.1.weights Try.prog 42, n ≤ reachBytes) : ∃ e : Act0, cs = e.cells ∧ e.good W := by
  obtain ⟨xs, f, _, rfl, hl, hlen, hf⟩ := DataW.trod_struct Try.underlying42 h
  have hlen : xs.length = 6 := hlen
  obtain ⟨y0, hy0⟩ := nth hlen (i := 0) (by omega)
  obtain ⟨y1, hy1⟩ := nth hlen (i := 1) (by omega)
  obtain ⟨y2, hy2⟩ := nth hlen (i := 2) (by omega)
  obtain ⟨y3, hy3⟩ := nth hlen (i := 3) (by omega)
  obtain ⟨y4, hy4⟩ := nth hlen (i := 4) (by omega)
  obtain ⟨y5, hy5⟩ := nth hlen (i := 5) (by omega)
  have g0 : DataW.trod enc Try.prog W 0 (fun _ => true) true f 3 ((cs.drop 0).take (Try.prog.cellsOf 3)) = some y0 := (hf 0 _ rfl).trans hy0
  have g1 : DataW.trod enc Try.prog W 0 (fun _ => true) true f 3 ((cs.drop 1).take (Try.prog.cellsOf 3)) = some y1 := (hf 1 _ rfl).trans hy1
  have g2 : DataW.trod enc Try.prog W 0 (fun _ => true) true f 3 ((cs.drop 2).take (Try.prog.cellsOf 3)) = some y2 := (hf 2 _ rfl).trans hy2
  have g3 : DataW.trod enc Try.prog W 0 (fun _ => true) true f 3 ((cs.drop 3).take (Try.prog.cellsOf 3)) = some y3 := (hf 3 _ rfl).trans hy3
  have g4 : DataW.trod enc Try.prog W 0 (fun _ => true) true f 39 ((cs.drop 4).take (Try.prog.cellsOf 39)) = some y4 := (hf 4 _ rfl).trans hy4
  have g5 : DataW.trod enc Try.prog W 0 (fun _ => true) true f 40 ((cs.drop 11).take (Try.prog.cellsOf 40)) = some y5 := (hf 5 _ rfl).trans hy5
  rw [Try.cellsOf3] at g0 g1 g2 g3
  rw [Try.cellsOf39] at g4
  rw [Try.cellsOf40] at g5
  rw [Try.cellsOf42] at hl
  have hz5 : ∀ n ∈ y5.1.weights Try.prog 40, n ≤ reachBytes := fun n hn => hz n (by
    simp only [DataW.weights, Try.underlying42]
    exact DataW.weights_mem_each (j := 5) rfl (by simp [hy5]) n hn)
  obtain ⟨kd, e0, r0, w0⟩ := DataW.trod_int Try.underlying3 g0
  obtain ⟨lg, e1, r1, w1⟩ := DataW.trod_int Try.underlying3 g1
  obtain ⟨op, e2, r2, w2⟩ := DataW.trod_int Try.underlying3 g2
  obtain ⟨ms, e3, r3, w3⟩ := DataW.trod_int Try.underlying3 g3
  obtain ⟨e, e4⟩ := ent_cells g4
  obtain ⟨s, l, e5, hd, hl3⟩ := ents_cells g5 hz5
  refine ⟨⟨kd, lg, op, ms, e, s, l⟩, ?_, ⟨i64_wf w0, i64_wf w1, i64_wf w2, i64_wf w3, hd, hl3⟩⟩
  have := list12 hl e0 e1 e2 e3 e4 e5
  rw [this]
  rfl

theorem weights_mem_all {P : Program} {e : TypeId} : ∀ {ds : List (DataW H)} {d : DataW H}, d ∈ ds → ∀ n ∈ d.weights P e, n ∈ DataW.weightsAll P e ds
  | d0 :: ds, d, hd, n, hn => by
    simp only [DataW.weightsAll, List.mem_append]
    rcases List.mem_cons.1 hd with rfl | hd
    · exact Or.inl hn
    · exact Or.inr (weights_mem_all hd n hn)
  | [], _, hd, _, _ => by cases hd

set_option maxRecDepth 100000 in
/-- Calls that came in. -/
theorem open_acts {v : Value} {d : DataW H} {p : List MemPlace} (h : DataW.Trod enc Try.prog W 0 (fun _ => true) true 22 v d p) (hv : ∃ a l c, v = .slice a l c) (hz : ∀ n ∈ d.weights Try.prog 22, n ≤ reachBytes) :
    ∃ xs, ActsAt W v xs ∧ xs.length ≤ 1099511627744 := by
  obtain ⟨fuel, hf⟩ := h
  obtain ⟨a0, l0, c0, rfl⟩ := hv
  rcases open_slice Try.underlying22 hf with ⟨hcs, hx⟩ | ⟨a, len, cap, m, n, D, Pl, hcs, _, hl, hm, hmm, hx, hel⟩
  · simp [Value.cells] at hcs
    obtain ⟨rfl, rfl, rfl⟩ := hcs
    exact ⟨[], ⟨none, 0, rfl, fun i x hx => by simp at hx⟩, by simp⟩
  · simp [Value.cells] at hcs
    obtain ⟨rfl, rfl, rfl⟩ := hcs
    have hlm : l0 ≤ m := by rw [hmm]; split <;> omega
    simp only [Prod.mk.injEq] at hx
    obtain ⟨rfl, _⟩ := hx
    have hle : ∀ i, i < l0 → ∀ k ∈ (D i).weights Try.prog 42, k ≤ reachBytes := fun i hi k hk => hz k (by
      simp only [DataW.weights, Try.underlying22, List.mem_cons, List.mem_append]
      exact Or.inr (Or.inl (weights_mem_all (List.mem_map_of_mem (List.mem_range.2 hi)) k hk)))
    have hw : l0 * 128 ≤ 140737488351232 := by
      have := hz ((l0 + (m - l0)) * 128) (by
        simp [DataW.weights, Try.underlying22, Try.bytesOf42])
      rw [reach_num] at this
      omega
    have each : ∀ i, i < l0 → ∃ x : Act0, x.good W ∧ ∀ j u, x.cells[j]? = some u → W.cell? (a.add (i * 12 + j)) = some u := by
      intro i hi
      obtain ⟨cs', h1, h2⟩ := hel i (by omega)
      rw [Try.cellsOf42] at h1
      obtain ⟨_, hlen, hcell⟩ := World.cells?_some h1
      obtain ⟨e, rfl, hr⟩ := act0_cells h2 (hle i hi)
      refine ⟨e, hr, fun j u hu => ?_⟩
      have hj : j < 12 := by
        have := (List.getElem?_eq_some_iff.1 hu).1
        simpa [Act0.cells] using this
      have q := hcell j (by omega)
      rw [add_add] at q
      rw [q, ← hu]
    haveI : Inhabited Act0 := ⟨⟨0, 0, 0, 0, Ent.zero, .slice none 0 0, []⟩⟩
    obtain ⟨f, hf'⟩ := choose_lt each
    refine ⟨(List.range l0).map f, ⟨some a, c0, by simp, fun i x hx => ?_⟩, by simp; omega⟩
    have hi : i < l0 := by
      have := (List.getElem?_eq_some_iff.1 hx).1
      simpa using this
    obtain rfl : f i = x := by
      rw [List.getElem?_map, List.getElem?_range hi] at hx
      simpa using hx
    obtain ⟨hg, hcell⟩ := hf' i hi
    refine ⟨hg, ?_⟩
    have h00 := (hf' 0 (by omega)).2 0 _ rfl
    obtain ⟨hsp, hb⟩ := spot_of (by simpa using h00)
    obtain ⟨b, off, sp⟩ := a
    simp only at hsp
    subst hsp
    refine ⟨b, off, rfl, hb, fun j u hu => ?_⟩
    have := hcell j u hu
    rw [Addr.add_lit] at this
    exact this

/-- Entries that came in, as an argument. -/
theorem open_ents {v : Value} {d : DataW H} {p : List MemPlace} (h : DataW.Trod enc Try.prog W 0 (fun _ => true) true 40 v d p) (hv : ∃ a l c, v = .slice a l c) (hz : ∀ n ∈ d.weights Try.prog 40, n ≤ reachBytes) :
    ∃ l, EntsW W v l ∧ l.length * 72 ≤ 140737488351232 := by
  obtain ⟨fuel, hf⟩ := h
  obtain ⟨a0, l0, c0, rfl⟩ := hv
  obtain ⟨s, l, e, h1, h2⟩ := ents_cells hf hz
  simp [Value.cells] at e
  subst e
  exact ⟨l, h1, h2⟩
end
end Go.Proofs.Ythjoppgomopkfaa

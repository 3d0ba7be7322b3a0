import Derived.Test.YtagdpfghooogfaaLaid
import Derived.Test.YtagdpfghooogfaaJ7
import Derived.Deep.Strs
namespace Go.Proofs.Ytagdpfghooogfaa
open Go.ChangeShapes Go.WideShapes Go.ChangeAt Go.RowKit Go.Deep Go.Joins
set_option linter.unusedVariables false

theorem Try.cellsOf3 : Try.prog.cellsOf 3 = 1 := by kernel_rfl
theorem Try.cellsOf9 : Try.prog.cellsOf 9 = 1 := by kernel_rfl
theorem Try.cellsOf35 : Try.prog.cellsOf 35 = 1 := by kernel_rfl
theorem Try.cellsOf37 : Try.prog.cellsOf 37 = 3 := by kernel_rfl
theorem Try.cellsOf39 : Try.prog.cellsOf 39 = 5 := by kernel_rfl

theorem i64_wf {n : Int} (h : (Lit.int .i64 n).wf = true) : -9223372036854775808 ≤ n ∧ n < 9223372036854775808 := by
  have : -9223372036854775808 ≤ n ∧ n ≤ 9223372036854775807 := by simpa [Lit.wf, IntKind.min, IntKind.max, IntKind.signed, IntKind.bits] using h
  omega
theorem list3 {l : List Value} {a b c : Value} (hl : l.length = 3) (h0 : (l.drop 0).take 1 = [a]) (h1 : (l.drop 1).take 1 = [b]) (h2 : (l.drop 2).take 1 = [c]) : l = [a, b, c] := by
  match l, hl with
  | [x0, x1, x2], _ => simp at h0 h1 h2; simp [h0, h1, h2]
theorem list5' {l : List Value} {a b c d e : Value} (hl : l.length = 5) (h0 : (l.drop 0).take 1 = [a]) (h1 : (l.drop 1).take 1 = [b]) (h2 : (l.drop 2).take 3 = [c, d, e]) : l = [a, b, c, d, e] := by
  match l, hl with
  | [x0, x1, x2, x3, x4], _ => simp at h0 h1 h2; simp [h0, h1, h2]
theorem nth {α : Type} {l : List α} {n i : Nat} (hl : l.length = n) (hi : i < n) : ∃ y, l[i]? = some y := ⟨_, List.getElem?_eq_getElem (by omega)⟩

theorem spot_of {a : Addr} {W : World} {u : Value} (h : W.cell? (a.add 0) = some u) : a.spot = none ∧ a.block < W.heap.size := by
  have h1 := World.cell?_spot h
  have h2 := World.block_lt_of_cell? W _ h
  exact ⟨by simpa [Addr.add] using h1, by simpa [Addr.add] using h2⟩

section
variable {H : Type} {enc : TypeId × Value → H} {W : World} {fuel : Nat} {cs : List Value} {x : DataW H × List MemPlace}

/-- Texts that came in. -/
theorem texts_cells (h : DataW.trod enc Try.prog W 0 (fun _ => true) true fuel 35 cs = some x) : ∃ s l, cs = [s] ∧ Txts W s l ∧ l.length ≤ maxLen := by
  rcases open_strs Try.underlying35 Try.underlying9 Try.cellsOf9 h with ⟨rfl, _⟩ | ⟨a, len, cap, m, Sx, rfl, _, hl, hm, hmm, _, hc⟩
  · exact ⟨_, [], rfl, ⟨none, 0, rfl, by simp, Or.inl rfl⟩, by simp⟩
  · have hlm : len ≤ m := by rw [hmm]; split <;> omega
    refine ⟨_, (List.range len).map Sx, rfl, ⟨some a, cap, by simp, by simpa using hl, ?_⟩, by simp; omega⟩
    by_cases h0 : len = 0
    · left; subst h0; rfl
    · right
      have hc0 := (hc 0 (by omega)).1
      have hsp : a.spot = none := by
        have := World.cell?_spot hc0
        simpa [Addr.add] using this
      obtain ⟨b, off, sp'⟩ := a
      simp only at hsp
      subst hsp
      refine ⟨b, off, rfl, ?_, fun j hj => ?_⟩
      · have := World.block_lt_of_cell? W _ hc0
        simpa [Addr.add] using this
      · have hj' : j < len := by simpa using hj
        have h1 := (hc j (by omega)).1
        rw [Addr.add_lit] at h1
        rw [h1]
        simp

set_option maxRecDepth 100000 in
theorem res_cells (h : DataW.trod enc Try.prog W 0 (fun _ => true) true fuel 37 cs = some x) : ∃ c n s l, cs = [.int .i64 c, .int .i64 n, s] ∧ Txts W s l ∧ l.length ≤ maxLen := by
  obtain ⟨xs, f, _, rfl, hl, hlen, hf⟩ := DataW.trod_struct Try.underlying37 h
  have hlen : xs.length = 3 := hlen
  obtain ⟨y0, hy0⟩ := nth hlen (i := 0) (by omega)
  obtain ⟨y1, hy1⟩ := nth hlen (i := 1) (by omega)
  obtain ⟨y2, hy2⟩ := nth hlen (i := 2) (by omega)
  have g0 : DataW.trod enc Try.prog W 0 (fun _ => true) true f 3 ((cs.drop 0).take (Try.prog.cellsOf 3)) = some y0 := (hf 0 _ rfl).trans hy0
  have g1 : DataW.trod enc Try.prog W 0 (fun _ => true) true f 3 ((cs.drop 1).take (Try.prog.cellsOf 3)) = some y1 := (hf 1 _ rfl).trans hy1
  have g2 : DataW.trod enc Try.prog W 0 (fun _ => true) true f 35 ((cs.drop 2).take (Try.prog.cellsOf 35)) = some y2 := (hf 2 _ rfl).trans hy2
  rw [Try.cellsOf3] at g0 g1
  rw [Try.cellsOf35] at g2
  rw [Try.cellsOf37] at hl
  obtain ⟨c, e0, r0, w0⟩ := DataW.trod_int Try.underlying3 g0
  obtain ⟨n, e1, r1, w1⟩ := DataW.trod_int Try.underlying3 g1
  obtain ⟨s, l, e2, ht, hl2⟩ := texts_cells g2
  exact ⟨c, n, s, l, list3 hl e0 e1 e2, ht, hl2⟩

def Rw0.cells (x : Rw0) : List Value := [.int .i64 x.n, .int .i64 x.a, .int .i64 x.c, .int .i64 x.k, x.s]

set_option maxRecDepth 100000 in
theorem row_cells (h : DataW.trod enc Try.prog W 0 (fun _ => true) true fuel 39 cs = some x) : ∃ e : Rw0, cs = e.cells ∧ Txts W e.s e.l ∧ e.l.length ≤ maxLen := by
  obtain ⟨xs, f, _, rfl, hl, hlen, hf⟩ := DataW.trod_struct Try.underlying39 h
  have hlen : xs.length = 3 := hlen
  obtain ⟨y0, hy0⟩ := nth hlen (i := 0) (by omega)
  obtain ⟨y1, hy1⟩ := nth hlen (i := 1) (by omega)
  obtain ⟨y2, hy2⟩ := nth hlen (i := 2) (by omega)
  have g0 : DataW.trod enc Try.prog W 0 (fun _ => true) true f 3 ((cs.drop 0).take (Try.prog.cellsOf 3)) = some y0 := (hf 0 _ rfl).trans hy0
  have g1 : DataW.trod enc Try.prog W 0 (fun _ => true) true f 3 ((cs.drop 1).take (Try.prog.cellsOf 3)) = some y1 := (hf 1 _ rfl).trans hy1
  have g2 : DataW.trod enc Try.prog W 0 (fun _ => true) true f 37 ((cs.drop 2).take (Try.prog.cellsOf 37)) = some y2 := (hf 2 _ rfl).trans hy2
  rw [Try.cellsOf3] at g0 g1
  rw [Try.cellsOf37] at g2
  rw [Try.cellsOf39] at hl
  obtain ⟨n, e0, r0, w0⟩ := DataW.trod_int Try.underlying3 g0
  obtain ⟨a, e1, r1, w1⟩ := DataW.trod_int Try.underlying3 g1
  obtain ⟨c, k, s, l, e2, ht, hl2⟩ := res_cells g2
  exact ⟨⟨n, a, c, k, s, l⟩, list5' hl e0 e1 e2, ht, hl2⟩

set_option maxRecDepth 100000 in
/-- Rows that came in. -/
theorem open_rows {v : Value} {d : DataW H} {p : List MemPlace} (h : DataW.Trod enc Try.prog W 0 (fun _ => true) true 56 v d p) (hv : ∃ a l c, v = .slice a l c) :
    ∃ xs, RowsAt W v xs ∧ xs.length ≤ maxLen := by
  obtain ⟨fuel, hf⟩ := h
  obtain ⟨a0, l0, c0, rfl⟩ := hv
  rcases open_slice Try.underlying56 hf with ⟨hcs, hx⟩ | ⟨a, len, cap, m, n, D, Pl, hcs, _, hl, hm, hmm, hx, hel⟩
  · simp [Value.cells] at hcs
    obtain ⟨rfl, rfl, rfl⟩ := hcs
    exact ⟨[], ⟨none, 0, rfl, fun i x hx => by simp at hx⟩, by simp⟩
  · simp [Value.cells] at hcs
    obtain ⟨rfl, rfl, rfl⟩ := hcs
    have hlm : l0 ≤ m := by rw [hmm]; split <;> omega
    have each : ∀ i, i < l0 → ∃ x : Rw0, (Txts W x.s x.l ∧ x.l.length ≤ maxLen) ∧ ∀ j u, x.cells[j]? = some u → W.cell? (a.add (i * 5 + j)) = some u := by
      intro i hi
      obtain ⟨cs', h1, h2⟩ := hel i (by omega)
      rw [Try.cellsOf39] at h1
      obtain ⟨_, hlen, hcell⟩ := World.cells?_some h1
      obtain ⟨e, rfl, hr, hok⟩ := row_cells h2
      refine ⟨e, ⟨hr, hok⟩, fun j u hu => ?_⟩
      have hj : j < 5 := by
        have := (List.getElem?_eq_some_iff.1 hu).1
        simpa [Rw0.cells] using this
      have q := hcell j (by omega)
      rw [add_add] at q
      rw [q, ← hu]
    haveI : Inhabited Rw0 := ⟨⟨0, 0, 0, 0, .slice none 0 0, []⟩⟩
    obtain ⟨f, hf'⟩ := choose_lt each
    refine ⟨(List.range l0).map f, ⟨some a, c0, by simp, fun i x hx => ?_⟩, by simp; omega⟩
    have hi : i < l0 := by
      have := (List.getElem?_eq_some_iff.1 hx).1
      simpa using this
    obtain rfl : f i = x := by
      rw [List.getElem?_map, List.getElem?_range hi] at hx
      simpa using hx
    obtain ⟨⟨ht, hlen⟩, hcell⟩ := hf' i hi
    refine ⟨by unfold maxLen at hlen; omega, ?_⟩
    have h00 := (hf' 0 (by omega)).2 0 _ rfl
    obtain ⟨hsp, hb⟩ := spot_of (by simpa using h00)
    obtain ⟨b, off, sp⟩ := a
    simp only at hsp
    subst hsp
    refine ⟨b, off, rfl, hb, ?_, ?_, ?_, ?_, ?_, ht⟩
    · have := hcell 0 _ rfl; rw [Addr.add_lit] at this; exact this
    · have := hcell 1 _ rfl; rw [Addr.add_lit] at this; exact this
    · have := hcell 2 _ rfl; rw [Addr.add_lit] at this; exact this
    · have := hcell 3 _ rfl; rw [Addr.add_lit] at this; exact this
    · have := hcell 4 _ rfl; rw [Addr.add_lit] at this; exact this

set_option maxRecDepth 100000 in
/-- Numbers that came in. -/
theorem open_ints {v : Value} {d : DataW H} {p : List MemPlace} (h : DataW.Trod enc Try.prog W 0 (fun _ => true) true 55 v d p) (hv : ∃ a l c, v = .slice a l c) :
    ∃ zs, IntsAt W v zs ∧ zs.length ≤ maxLen := by
  obtain ⟨fuel, hf⟩ := h
  obtain ⟨a0, l0, c0, rfl⟩ := hv
  rcases open_slice Try.underlying55 hf with ⟨hcs, hx⟩ | ⟨a, len, cap, m, n, D, Pl, hcs, _, hl, hm, hmm, hx, hel⟩
  · simp [Value.cells] at hcs
    obtain ⟨rfl, rfl, rfl⟩ := hcs
    exact ⟨[], ⟨none, 0, rfl, fun i x hx => by simp at hx⟩, by simp⟩
  · simp [Value.cells] at hcs
    obtain ⟨rfl, rfl, rfl⟩ := hcs
    have hlm : l0 ≤ m := by rw [hmm]; split <;> omega
    have each : ∀ i, i < l0 → ∃ x : Int, (-9223372036854775808 ≤ x ∧ x < 9223372036854775808) ∧ W.cell? (a.add i) = some (.int .i64 x) := by
      intro i hi
      obtain ⟨cs', h1, h2⟩ := hel i (by omega)
      rw [Try.cellsOf3] at h1
      obtain ⟨_, hlen, hcell⟩ := World.cells?_some h1
      obtain ⟨k, e0, r0, w0⟩ := DataW.trod_int Try.underlying3 h2
      subst e0
      refine ⟨k, i64_wf w0, ?_⟩
      have q := hcell 0 (by omega)
      rw [add_add] at q
      simpa using q
    obtain ⟨f, hf'⟩ := choose_lt each
    refine ⟨(List.range l0).map f, ⟨some a, c0, by simp, fun i x hx => ?_⟩, by simp; omega⟩
    have hi : i < l0 := by
      have := (List.getElem?_eq_some_iff.1 hx).1
      simpa using this
    obtain rfl : f i = x := by
      rw [List.getElem?_map, List.getElem?_range hi] at hx
      simpa using hx
    obtain ⟨⟨h1, h2⟩, hcell⟩ := hf' i hi
    refine ⟨h1, h2, ?_⟩
    obtain ⟨hsp, hb⟩ := spot_of (hf' 0 (by omega)).2
    obtain ⟨b, off, sp⟩ := a
    simp only at hsp
    subst hsp
    refine ⟨b, off, rfl, hb, ?_⟩
    have := hcell; rw [Addr.add_lit] at this; exact this
end
end Go.Proofs.Ytagdpfghooogfaa

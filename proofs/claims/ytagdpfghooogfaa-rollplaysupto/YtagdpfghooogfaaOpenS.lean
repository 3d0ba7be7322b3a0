import Derived.Test.YtagdpfghooogfaaOpenR
import Derived.Test.YtagdpfghooogfaaOpenL
namespace Go.Proofs.Ytagdpfghooogfaa
open Go.ChangeShapes Go.WideShapes Go.ChangeAt Go.RowKit Go.Deep Go.Joins
set_option linter.unusedVariables false

theorem Try.cellsOf40 : Try.prog.cellsOf 40 = 1 := by kernel_rfl
theorem Try.cellsOf42 : Try.prog.cellsOf 42 = 10 := by kernel_rfl

/-- A step that is handed in. -/
structure St0 where
  kd : Int
  on : Int
  dst0 : Int
  cl : Int
  n : Int
  a : Int
  c : Int
  k : Int
  s : Value
  l : List ByteArray
  dv : Value
  data : List UInt8
def St0.cells (x : St0) : List Value := [.int .i64 x.kd, .int .i64 x.on, .int .i64 x.dst0, .int .i64 x.cl, .int .i64 x.n, .int .i64 x.a, .int .i64 x.c, .int .i64 x.k, x.s, x.dv]
def i64In (z : Int) : Prop := -9223372036854775808 ≤ z ∧ z < 9223372036854775808
structure St0.good (w : World) (x : St0) (B : Nat) : Prop where
  on : i64In x.on
  dst0 : i64In x.dst0
  cl : i64In x.cl
  txt : Txts w x.s x.l
  rd : ReadsW w x.dv x.data
  fewT : x.l.length ≤ B
  fewB : x.data.length ≤ B
def StepsAt (w : World) (v : Value) (xs : List St0) : Prop :=
  ∃ ao cp, v = .slice ao xs.length cp ∧ ∀ i x, xs[i]? = some x → x.good w 1048576 ∧ ∃ g o, ao = some ⟨g, o, none⟩ ∧ g < w.heap.size ∧ ∀ j u, x.cells[j]? = some u → w.cell? ⟨g, o + (i * 10 + j), none⟩ = some u

section
variable {H : Type} {enc : TypeId × Value → H} {W : World} {fuel : Nat} {cs : List Value} {x : DataW H × List MemPlace}

theorem bulk_strs {H : Type} (f : Nat → ByteArray) (n : Nat) : n ≤ Rows.uptoBulkAll ((List.range n).map fun i => (.lit (.string (f i).data.toList) : DataW H)) := by
  have := bulk_count ((List.range n).map fun i => (.lit (.string (f i).data.toList) : DataW H))
  simpa using this

theorem texts_bulk (h : DataW.trod enc Try.prog W 0 (fun _ => true) true fuel 35 cs = some x) : ∃ s l, cs = [s] ∧ Txts W s l ∧ l.length ≤ Rows.uptoBulk x.1 := by
  obtain ⟨s, l, rfl, ht, _⟩ := texts_cells h
  refine ⟨s, l, rfl, ht, ?_⟩
  obtain ⟨ao, c, e, _⟩ := ht
  rcases open_strs Try.underlying35 Try.underlying9 Try.cellsOf9 h with ⟨hc, _⟩ | ⟨a, len, cap, m, Sx, hc, _, hl, hm, hmm, hx, _⟩
  · rw [e] at hc
    simp at hc
    rw [hc.2.1]
    simp
  · rw [e] at hc
    simp at hc
    rw [hx]
    have := bulk_strs (H := H) Sx len
    simp only [Rows.uptoBulk]
    omega

theorem agg_mem {y : DataW H × List MemPlace} {xs : List (DataW H × List MemPlace)} (h : y ∈ xs) : Rows.uptoBulk y.1 ≤ Rows.uptoBulk (.agg (xs.map (·.1)) : DataW H) := by
  have := bulk_mem (List.mem_map_of_mem (f := fun z : DataW H × List MemPlace => z.1) h)
  simp only [Rows.uptoBulk]
  omega

set_option maxRecDepth 100000 in
theorem res_bulk (h : DataW.trod enc Try.prog W 0 (fun _ => true) true fuel 37 cs = some x) : ∃ c n s l, cs = [.int .i64 c, .int .i64 n, s] ∧ Txts W s l ∧ l.length ≤ Rows.uptoBulk x.1 := by
  obtain ⟨xs, f, _, rfl, hl, hlen, hf⟩ := DataW.trod_struct Try.underlying37 h
  have hlen : xs.length = 3 := hlen
  obtain ⟨y0, hy0⟩ := nth hlen (i := 0) (by omega)
  obtain ⟨y1, hy1⟩ := nth hlen (i := 1) (by omega)
  obtain ⟨y2, hy2⟩ := nth hlen (i := 2) (by omega)
  have g0 : DataW.trod enc Try.prog W 0 (fun _ => true) true f 3 ((cs.drop 0).take (Try.prog.cellsOf 3)) = some y0 := (hf 0 _ rfl).trans hy0
  have g1 : DataW.trod enc Try.prog W 0 (fun _ => true) true f 3 ((cs.drop 1).take (Try.prog.cellsOf 3)) = some y1 := (hf 1 _ rfl).trans hy1
  have g2 : DataW.trod enc Try.prog W 0 (fun _ => true) true f 35 ((cs.drop 2).take (Try.prog.cellsOf 35)) = some y2 := (hf 2 _ rfl).trans hy2
  rw [Try.cellsOf3] at g0 g1
  rw [Try.cellsOf35] at g2
  rw [Try.cellsOf37] at hl
  obtain ⟨c, e0, r0, w0⟩ := DataW.trod_int Try.underlying3 g0
  obtain ⟨n, e1, r1, w1⟩ := DataW.trod_int Try.underlying3 g1
  obtain ⟨s, l, e2, ht, hl2⟩ := texts_bulk g2
  exact ⟨c, n, s, l, list3 hl e0 e1 e2, ht, Nat.le_trans hl2 (agg_mem (List.mem_of_getElem? hy2))⟩

set_option maxRecDepth 100000 in
theorem row_bulk (h : DataW.trod enc Try.prog W 0 (fun _ => true) true fuel 39 cs = some x) : ∃ e : Rw0, cs = e.cells ∧ Txts W e.s e.l ∧ e.l.length ≤ Rows.uptoBulk x.1 := by
  obtain ⟨xs, f, _, rfl, hl, hlen, hf⟩ := DataW.trod_struct Try.underlying39 h
  have hlen : xs.length = 3 := hlen
  obtain ⟨y0, hy0⟩ := nth hlen (i := 0) (by omega)
  obtain ⟨y1, hy1⟩ := nth hlen (i := 1) (by omega)
  obtain ⟨y2, hy2⟩ := nth hlen (i := 2) (by omega)
  have g0 : DataW.trod enc Try.prog W 0 (fun _ => true) true f 3 ((cs.drop 0).take (Try.prog.cellsOf 3)) = some y0 := (hf 0 _ rfl).trans hy0
  have g1 : DataW.trod enc Try.prog W 0 (fun _ => true) true f 3 ((cs.drop 1).take (Try.prog.cellsOf 3)) = some y1 := (hf 1 _ rfl).trans hy1
  have g2 : DataW.trod enc Try.prog W 0 (fun _ => true) true f 37 ((cs.drop 2).take (Try.prog.cellsOf 37)) = some y2 := (hf 2 _ rfl).trans hy2
  rw [Try.cellsOf3] at g0 g1
  rw [Try.cellsOf37] at g2
  rw [Try.cellsOf39] at hl
  obtain ⟨n, e0, r0, w0⟩ := DataW.trod_int Try.underlying3 g0
  obtain ⟨a, e1, r1, w1⟩ := DataW.trod_int Try.underlying3 g1
  obtain ⟨c, k, s, l, e2, ht, hl2⟩ := res_bulk g2
  exact ⟨⟨n, a, c, k, s, l⟩, list5' hl e0 e1 e2, ht, Nat.le_trans hl2 (agg_mem (List.mem_of_getElem? hy2))⟩

theorem list10 {l : List Value} {a b c d f : Value} {e : List Value} (he : e.length = 5) (hl : l.length = 10) (h0 : (l.drop 0).take 1 = [a]) (h1 : (l.drop 1).take 1 = [b]) (h2 : (l.drop 2).take 1 = [c]) (h3 : (l.drop 3).take 1 = [d]) (h4 : (l.drop 4).take 5 = e) (h9 : (l.drop 9).take 1 = [f]) : l = [a, b, c, d] ++ e ++ [f] := by
  match l, hl with
  | [x0, x1, x2, x3, x4, x5, x6, x7, x8, x9], _ => simp at h0 h1 h2 h3 h4 h9; simp [h0, h1, h2, h3, ← h4, h9]

set_option maxRecDepth 100000 in
theorem step_cells (h : DataW.trod enc Try.prog W 0 (fun _ => true) true fuel 42 cs = some x) : ∃ e : St0, cs = e.cells ∧ e.good W (Rows.uptoBulk x.1) := by
  obtain ⟨xs, f, _, rfl, hl, hlen, hf⟩ := DataW.trod_struct Try.underlying42 h
  have hlen : xs.length = 6 := hlen
  obtain ⟨y0, hy0⟩ := nth hlen (i := 0) (by omega)
  obtain ⟨y1, hy1⟩ := nth hlen (i := 1) (by omega)
  obtain ⟨y2, hy2⟩ := nth hlen (i := 2) (by omega)
  obtain ⟨y3, hy3⟩ := nth hlen (i := 3) (by omega)
  obtain ⟨y4, hy4⟩ := nth hlen (i := 4) (by omega)
  obtain ⟨y5, hy5⟩ := nth hlen (i := 5) (by omega)
  have g0 : DataW.trod enc Try.prog W 0 (fun _ => true) true f 3 ((cs.drop 0).take (Try.prog.cellsOf 3)) = some y0 := (hf 0 _ rfl).trans hy0
  have g1 : DataW.trod enc Try.prog W 0 (fun _ => true) true f 3 ((cs.drop 1).take (Try.prog.cellsOf 3)) = some y1 := (hf 1 _ rfl).trans hy1
  have g2 : DataW.trod enc Try.prog W 0 (fun _ => true) true f 3 ((cs.drop 2).take (Try.prog.cellsOf 3)) = some y2 := (hf 2 _ rfl).trans hy2
  have g3 : DataW.trod enc Try.prog W 0 (fun _ => true) true f 3 ((cs.drop 3).take (Try.prog.cellsOf 3)) = some y3 := (hf 3 _ rfl).trans hy3
  have g4 : DataW.trod enc Try.prog W 0 (fun _ => true) true f 39 ((cs.drop 4).take (Try.prog.cellsOf 39)) = some y4 := (hf 4 _ rfl).trans hy4
  have g5 : DataW.trod enc Try.prog W 0 (fun _ => true) true f 40 ((cs.drop 9).take (Try.prog.cellsOf 40)) = some y5 := (hf 5 _ rfl).trans hy5
  rw [Try.cellsOf3] at g0 g1 g2 g3
  rw [Try.cellsOf39] at g4
  rw [Try.cellsOf40] at g5
  rw [Try.cellsOf42] at hl
  obtain ⟨kd, e0, r0, w0⟩ := DataW.trod_int Try.underlying3 g0
  obtain ⟨on, e1, r1, w1⟩ := DataW.trod_int Try.underlying3 g1
  obtain ⟨dst0, e2, r2, w2⟩ := DataW.trod_int Try.underlying3 g2
  obtain ⟨cl, e3, r3, w3⟩ := DataW.trod_int Try.underlying3 g3
  obtain ⟨r, e4, ht, hl2⟩ := row_bulk g4
  obtain ⟨dv, data, e5, hd, hl3⟩ := one_bytes (d := y5.1) (p := y5.2) g5
  refine ⟨⟨kd, on, dst0, cl, r.n, r.a, r.c, r.k, r.s, r.l, dv, data⟩, ?_, ⟨i64_wf w1, i64_wf w2, i64_wf w3, ht, hd, Nat.le_trans hl2 (agg_mem (List.mem_of_getElem? hy4)), Nat.le_trans hl3 (agg_mem (List.mem_of_getElem? hy5))⟩⟩
  have := list10 (by rfl) hl e0 e1 e2 e3 e4 e5
  rw [this]
  rfl

set_option maxRecDepth 100000 in
/-- Steps that came in. -/
theorem open_steps {v : Value} {d : DataW H} {p : List MemPlace} (h : DataW.Trod enc Try.prog W 0 (fun _ => true) true 22 v d p) (hv : ∃ a l c, v = .slice a l c) (hb : Rows.uptoBulk d ≤ 1048576) :
    ∃ xs, StepsAt W v xs ∧ xs.length ≤ 1048576 := by
  obtain ⟨fuel, hf⟩ := h
  obtain ⟨a0, l0, c0, rfl⟩ := hv
  rcases open_slice Try.underlying22 hf with ⟨hcs, hx⟩ | ⟨a, len, cap, m, n, D, Pl, hcs, _, hl, hm, hmm, hx, hel⟩
  · simp [Value.cells] at hcs
    obtain ⟨rfl, rfl, rfl⟩ := hcs
    exact ⟨[], ⟨none, 0, rfl, fun i x hx => by simp at hx⟩, by simp⟩
  · simp [Value.cells] at hcs
    obtain ⟨rfl, rfl, rfl⟩ := hcs
    have hlm : l0 ≤ m := by rw [hmm]; split <;> omega
    simp only [Prod.mk.injEq] at hx
    obtain ⟨rfl, _⟩ := hx
    have hcnt := bulk_count ((List.range l0).map D)
    have hle : ∀ i, i < l0 → Rows.uptoBulk (D i) ≤ 1048576 := fun i hi => by
      have h2 := bulk_mem (d := D i) (ds := (List.range l0).map D) (List.mem_map_of_mem (List.mem_range.2 hi))
      simp only [Rows.uptoBulk] at hb
      omega
    have each : ∀ i, i < l0 → ∃ x : St0, x.good W 1048576 ∧ ∀ j u, x.cells[j]? = some u → W.cell? (a.add (i * 10 + j)) = some u := by
      intro i hi
      obtain ⟨cs', h1, h2⟩ := hel i (by omega)
      rw [Try.cellsOf42] at h1
      obtain ⟨_, hlen, hcell⟩ := World.cells?_some h1
      obtain ⟨e, rfl, hr⟩ := step_cells h2
      have hli := hle i hi
      refine ⟨e, ⟨hr.on, hr.dst0, hr.cl, hr.txt, hr.rd, Nat.le_trans hr.fewT hli, Nat.le_trans hr.fewB hli⟩, fun j u hu => ?_⟩
      have hj : j < 10 := by
        have := (List.getElem?_eq_some_iff.1 hu).1
        simpa [St0.cells] using this
      have q := hcell j (by omega)
      rw [add_add] at q
      rw [q, ← hu]
    haveI : Inhabited St0 := ⟨⟨0, 0, 0, 0, 0, 0, 0, 0, .slice none 0 0, [], .slice none 0 0, []⟩⟩
    obtain ⟨f, hf'⟩ := choose_lt each
    refine ⟨(List.range l0).map f, ⟨some a, c0, by simp, fun i x hx => ?_⟩, ?_⟩
    · have hi : i < l0 := by
        have := (List.getElem?_eq_some_iff.1 hx).1
        simpa using this
      obtain rfl : f i = x := by
        rw [List.getElem?_map, List.getElem?_range hi] at hx
        simpa using hx
      obtain ⟨hg, hcell⟩ := hf' i hi
      refine ⟨hg, ?_⟩
      have h00 := (hf' 0 (by omega)).2 0 _ rfl
      obtain ⟨hsp, hb⟩ := spot_of (by simpa using h00)
      obtain ⟨b, off, sp⟩ := a
      simp only at hsp
      subst hsp
      refine ⟨b, off, rfl, hb, fun j u hu => ?_⟩
      have := hcell j u hu
      rw [Addr.add_lit] at this
      exact this
    · simp only [Rows.uptoBulk] at hb
      simp at hcnt ⊢
      omega
end
end Go.Proofs.Ytagdpfghooogfaa

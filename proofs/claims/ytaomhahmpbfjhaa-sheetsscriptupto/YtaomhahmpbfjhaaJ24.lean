import Derived.Test.YtaomhahmpbfjhaaJ23
import Derived.Test.YtaomhahmpbfjhaaJ9
import Derived.Test.YtaomhahmpbfjhaaJ13
import Derived.Test.YtaomhahmpbfjhaaJ14
namespace Go.Proofs.Ytaomhahmpbfjhaa
open Go.ChangeShapes Go.WideShapes Go.ChangeAt Go.RowKit Go.Deep Go.Joins
set_option linter.unusedVariables false

theorem Try.cellsOf3 : Try.prog.cellsOf 3 = 1 := by kernel_rfl
theorem Try.cellsOf5 : Try.prog.cellsOf 5 = 1 := by kernel_rfl
theorem Try.cellsOf36 : Try.prog.cellsOf 36 = 1 := by kernel_rfl
theorem Try.cellsOf37 : Try.prog.cellsOf 37 = 1 := by kernel_rfl
theorem Try.cellsOf39 : Try.prog.cellsOf 39 = 6 := by kernel_rfl

theorem i64_wf {n : Int} (h : (Lit.int .i64 n).wf = true) : -9223372036854775808 ≤ n ∧ n < 9223372036854775808 := by
  have : -9223372036854775808 ≤ n ∧ n ≤ 9223372036854775807 := by simpa [Lit.wf, IntKind.min, IntKind.max, IntKind.signed, IntKind.bits] using h
  omega
theorem u8_wf {n : Int} (h : (Lit.int .u8 n).wf = true) : 0 ≤ n ∧ n < 256 := by
  have : 0 ≤ n ∧ n ≤ 255 := by simpa [Lit.wf, IntKind.min, IntKind.max, IntKind.signed, IntKind.bits] using h
  omega
theorem open_i64 {H : Type} {enc : TypeId × Value → H} {W : World} {n : Int} {d : DataW H} {p : List MemPlace} (h : DataW.Trod enc Try.prog W 0 (fun _ => true) true 3 (.int .i64 n) d p) : -9223372036854775808 ≤ n ∧ n < 9223372036854775808 := by
  obtain ⟨fuel, hf⟩ := h
  obtain ⟨k, e, _, hw⟩ := DataW.trod_int Try.underlying3 hf
  simp only [Value.cells, List.cons.injEq, Value.int.injEq, and_true, true_and] at e
  subst e
  exact i64_wf hw

section
variable {H : Type} {enc : TypeId × Value → H} {W : World}

/-- Bytes that came in. -/
theorem data_cells {n : Nat} {cs : List Value} {x : DataW H × List MemPlace} (h : DataW.trod enc Try.prog W 0 (fun _ => true) true n 36 cs = some x) : ∃ a l c bs, cs = [.slice a l c] ∧ Reads W (.slice a l c) bs := by
  rcases open_ints Try.underlying36 Try.underlying5 Try.cellsOf5 h with ⟨hcs, hx⟩ | ⟨a, l0, c0, zs, hcs, _, hl, hm, hz, hx, hcell, hwz⟩
  · exact ⟨_, _, _, [], hcs, Reads.nil _⟩
  · refine ⟨_, _, _, (zs.take l0).map fun z => UInt8.ofNat z.toNat, hcs, ?_⟩
    simp only [if_true] at hz
    have hlz : ((zs.take l0).map fun z => UInt8.ofNat z.toNat).length = l0 := by simp; omega
    by_cases h0 : l0 = 0
    · subst h0
      exact ⟨some a, c0, by simp, by simp, Or.inl ⟨by simp, fun h => by cases h⟩⟩
    · have hc0 := hcell 0 (by omega)
      have hsp : a.spot = none := by
        have := World.cell?_spot hc0
        simpa [Addr.add] using this
      obtain ⟨b, off, sp⟩ := a
      simp only at hsp
      subst hsp
      refine ⟨_, c0, by rw [hlz], by rw [hlz]; exact hl, Or.inr ⟨b, off, rfl, ?_, fun j u hu => ?_⟩⟩
      · have := World.block_lt_of_cell? W _ hc0
        simpa [Addr.add] using this
      · have hj : j < l0 := by
          have := (List.getElem?_eq_some_iff.1 hu).1
          rw [cellsB_length, hlz] at this
          exact this
        have hjz : j < zs.length := by omega
        have hc := hcell j hjz
        rw [Addr.add_lit] at hc
        rw [hc, ← hu]
        have hw := u8_wf (hwz zs[j] (List.getElem_mem hjz))
        have e : ((UInt8.ofNat zs[j].toNat).toNat : Int) = zs[j] := by
          rw [UInt8.toNat_ofNat']
          omega
        simp only [cellsB, List.getElem?_map, List.getElem?_take, hj, if_true, List.getElem?_eq_getElem hjz, Option.map_some, List.getD, Option.getD_some, e]

theorem slice_cells {n : Nat} {cs : List Value} {x : DataW H × List MemPlace} (h : DataW.trod enc Try.prog W 0 (fun _ => true) true n 37 cs = some x) : ∃ a l c, cs = [.slice a l c] := by
  rcases open_slice Try.underlying37 h with ⟨hcs, hx⟩ | ⟨a, len, cap, m, n, D, Pl, hcs, _⟩
  · exact ⟨_, _, _, hcs⟩
  · exact ⟨_, _, _, hcs⟩

theorem nth {α : Type} {l : List α} {n i : Nat} (hl : l.length = n) (hi : i < n) : ∃ y, l[i]? = some y := ⟨_, List.getElem?_eq_getElem (by omega)⟩
theorem list6 {l : List Value} {a b c d e f : Value} (hl : l.length = 6) (h0 : (l.drop 0).take 1 = [a]) (h1 : (l.drop 1).take 1 = [b]) (h2 : (l.drop 2).take 1 = [c]) (h3 : (l.drop 3).take 1 = [d]) (h4 : (l.drop 4).take 1 = [e]) (h5 : (l.drop 5).take 1 = [f]) : l = [a, b, c, d, e, f] := by
  match l, hl with
  | [x0, x1, x2, x3, x4, x5], _ => simp at h0 h1 h2 h3 h4 h5; simp [h0, h1, h2, h3, h4, h5]

def Ac.Ok (x : Ac) : Prop := (-9223372036854775808 ≤ x.num ∧ x.num < 9223372036854775808) ∧ (-9223372036854775808 ≤ x.at_ ∧ x.at_ < 9223372036854775808) ∧ (-9223372036854775808 ≤ x.kind ∧ x.kind < 9223372036854775808) ∧ (-9223372036854775808 ≤ x.book ∧ x.book < 9223372036854775808)

set_option maxRecDepth 100000 in
theorem act_cells {fuel : Nat} {cs : List Value} {x : DataW H × List MemPlace} (h : DataW.trod enc Try.prog W 0 (fun _ => true) true fuel 39 cs = some x) : ∃ e : Ac, cs = e.cells ∧ Reads W (.slice e.d1 e.d2 e.d3) e.data ∧ e.Ok := by
  obtain ⟨xs, f, _, rfl, hl, hlen, hf⟩ := DataW.trod_struct Try.underlying39 h
  have hlen : xs.length = 6 := hlen
  obtain ⟨y0, hy0⟩ := nth hlen (i := 0) (by omega)
  obtain ⟨y1, hy1⟩ := nth hlen (i := 1) (by omega)
  obtain ⟨y2, hy2⟩ := nth hlen (i := 2) (by omega)
  obtain ⟨y3, hy3⟩ := nth hlen (i := 3) (by omega)
  obtain ⟨y4, hy4⟩ := nth hlen (i := 4) (by omega)
  obtain ⟨y5, hy5⟩ := nth hlen (i := 5) (by omega)
  have g0 : DataW.trod enc Try.prog W 0 (fun _ => true) true f 3 ((cs.drop 0).take (Try.prog.cellsOf 3)) = some y0 := (hf 0 _ rfl).trans hy0
  have g1 : DataW.trod enc Try.prog W 0 (fun _ => true) true f 3 ((cs.drop 1).take (Try.prog.cellsOf 3)) = some y1 := (hf 1 _ rfl).trans hy1
  have g2 : DataW.trod enc Try.prog W 0 (fun _ => true) true f 3 ((cs.drop 2).take (Try.prog.cellsOf 3)) = some y2 := (hf 2 _ rfl).trans hy2
  have g3 : DataW.trod enc Try.prog W 0 (fun _ => true) true f 3 ((cs.drop 3).take (Try.prog.cellsOf 3)) = some y3 := (hf 3 _ rfl).trans hy3
  have g4 : DataW.trod enc Try.prog W 0 (fun _ => true) true f 36 ((cs.drop 4).take (Try.prog.cellsOf 36)) = some y4 := (hf 4 _ rfl).trans hy4
  have g5 : DataW.trod enc Try.prog W 0 (fun _ => true) true f 37 ((cs.drop 5).take (Try.prog.cellsOf 37)) = some y5 := (hf 5 _ rfl).trans hy5
  rw [Try.cellsOf3] at g0 g1 g2 g3
  rw [Try.cellsOf36] at g4
  rw [Try.cellsOf37] at g5
  rw [Try.cellsOf39] at hl
  obtain ⟨k, e0, r0, w0⟩ := DataW.trod_int Try.underlying3 g0
  obtain ⟨b, e1, r1, w1⟩ := DataW.trod_int Try.underlying3 g1
  obtain ⟨m, e2, r2, w2⟩ := DataW.trod_int Try.underlying3 g2
  obtain ⟨t, e3, r3, w3⟩ := DataW.trod_int Try.underlying3 g3
  obtain ⟨d1, d2, d3, bs, e4, hr⟩ := data_cells g4
  obtain ⟨l1, l2, l3, e5⟩ := slice_cells g5
  exact ⟨⟨k, b, m, t, d1, d2, d3, l1, l2, l3, bs⟩, list6 hl e0 e1 e2 e3 e4 e5, hr, i64_wf w2, i64_wf w3, i64_wf w0, i64_wf w1⟩

set_option maxRecDepth 100000 in
/-- A script that came in. -/
theorem open_acts {v : Value} {d : DataW H} {p : List MemPlace} (h : DataW.Trod enc Try.prog W 0 (fun _ => true) true 22 v d p) (hv : ∃ a l c, v = .slice a l c) :
    ∃ xs, ActsAt W v xs ∧ (∀ x ∈ xs, x.Ok) ∧ xs.length ≤ maxLen := by
  obtain ⟨fuel, hf⟩ := h
  obtain ⟨a0, l0, c0, rfl⟩ := hv
  rcases open_slice Try.underlying22 hf with ⟨hcs, hx⟩ | ⟨a, len, cap, m, n, D, Pl, hcs, _, hl, hm, hmm, hx, hel⟩
  · simp [Value.cells] at hcs
    obtain ⟨rfl, rfl, rfl⟩ := hcs
    exact ⟨[], ⟨none, 0, rfl, Or.inl rfl⟩, by simp, by simp⟩
  · simp [Value.cells] at hcs
    obtain ⟨rfl, rfl, rfl⟩ := hcs
    have hlm : l0 ≤ m := by rw [hmm]; split <;> omega
    have each : ∀ i, i < l0 → ∃ x : Ac, (x.Ok ∧ Reads W (.slice x.d1 x.d2 x.d3) x.data) ∧ ∀ j u, x.cells[j]? = some u → W.cell? (a.add (i * 6 + j)) = some u := by
      intro i hi
      obtain ⟨cs', h1, h2⟩ := hel i (by omega)
      rw [Try.cellsOf39] at h1
      obtain ⟨_, hlen, hcell⟩ := World.cells?_some h1
      obtain ⟨e, rfl, hr, hok⟩ := act_cells h2
      refine ⟨e, ⟨hok, hr⟩, fun j u hu => ?_⟩
      have hj : j < 6 := by
        have := (List.getElem?_eq_some_iff.1 hu).1
        simpa [Ac.cells] using this
      have q := hcell j (by omega)
      rw [add_add] at q
      rw [q, ← hu]
    haveI : Inhabited Ac := ⟨⟨0, 0, 0, 0, none, 0, 0, none, 0, 0, []⟩⟩
    obtain ⟨f, hf'⟩ := choose_lt each
    refine ⟨(List.range l0).map f, ⟨some a, c0, by simp, ?_⟩, ?_, ?_⟩
    · by_cases h0 : l0 = 0
      · left; simp [h0]
      · right
        have h00 := (hf' 0 (by omega)).2 0 _ rfl
        have hsp : a.spot = none := by
          have := World.cell?_spot h00
          simpa [Addr.add] using this
        obtain ⟨b, off, sp⟩ := a
        simp only at hsp
        subst hsp
        refine ⟨b, off, rfl, ?_, ?_⟩
        · have := World.block_lt_of_cell? W _ h00
          simpa [Addr.add] using this
        · intro i x hx
          simp only [List.getElem?_map] at hx
          by_cases hi : i < l0
          · simp [hi] at hx
            subst hx
            refine ⟨fun j u hu => ?_, (hf' i hi).1.2⟩
            have := (hf' i hi).2 j u hu
            simpa [Addr.add_lit, Nat.add_assoc] using this
          · simp [hi] at hx
    · intro x hx
      obtain ⟨i, hi, rfl⟩ := List.mem_map.1 hx
      exact (hf' i (List.mem_range.1 hi)).1.1
    · simp
      omega
end
end Go.Proofs.Ytaomhahmpbfjhaa

namespace Go.Proofs.Ytaomhahmpbfjhaa
open Go.ChangeShapes Go.WideShapes Go.ChangeAt Go.RowKit Go.Deep Go.Joins
set_option linter.unusedVariables false

theorem Try.cellsOf51 : Try.prog.cellsOf 51 = 3 := by kernel_rfl
section
variable {H : Type} {enc : TypeId × Value → H} {W : World}
theorem list3 {l : List Value} {a b c : Value} (hl : l.length = 3) (h0 : (l.drop 0).take 1 = [a]) (h1 : (l.drop 1).take 1 = [b]) (h2 : (l.drop 2).take 1 = [c]) : l = [a, b, c] := by
  match l, hl with
  | [x0, x1, x2], _ => simp at h0 h1 h2; simp [h0, h1, h2]
set_option maxRecDepth 100000 in
/-- A sheet that came in. -/
theorem sheet_cells {fuel : Nat} {cs : List Value} {x : DataW H × List MemPlace} (h : DataW.trod enc Try.prog W 0 (fun _ => true) true fuel 51 cs = some x) : ∃ e : Sh, cs = e.cells ∧ Reads W (.slice e.ao e.len e.cap) e.bs := by
  obtain ⟨xs, f, _, rfl, hl, hlen, hf⟩ := DataW.trod_struct Try.underlying51 h
  have hlen : xs.length = 3 := hlen
  obtain ⟨y0, hy0⟩ := nth hlen (i := 0) (by omega)
  obtain ⟨y1, hy1⟩ := nth hlen (i := 1) (by omega)
  obtain ⟨y2, hy2⟩ := nth hlen (i := 2) (by omega)
  have g0 : DataW.trod enc Try.prog W 0 (fun _ => true) true f 3 ((cs.drop 0).take (Try.prog.cellsOf 3)) = some y0 := (hf 0 _ rfl).trans hy0
  have g1 : DataW.trod enc Try.prog W 0 (fun _ => true) true f 3 ((cs.drop 1).take (Try.prog.cellsOf 3)) = some y1 := (hf 1 _ rfl).trans hy1
  have g2 : DataW.trod enc Try.prog W 0 (fun _ => true) true f 36 ((cs.drop 2).take (Try.prog.cellsOf 36)) = some y2 := (hf 2 _ rfl).trans hy2
  rw [Try.cellsOf3] at g0 g1
  rw [Try.cellsOf36] at g2
  rw [Try.cellsOf51] at hl
  obtain ⟨k, e0, r0, w0⟩ := DataW.trod_int Try.underlying3 g0
  obtain ⟨b, e1, r1, w1⟩ := DataW.trod_int Try.underlying3 g1
  obtain ⟨d1, d2, d3, bs, e2, hr⟩ := data_cells g2
  exact ⟨⟨k, b, d1, d2, d3, bs⟩, list3 hl e0 e1 e2, hr⟩
set_option maxRecDepth 100000 in
/-- Sheets that came in. -/
theorem sheets_cells {fuel : Nat} {cs : List Value} {x : DataW H × List MemPlace} (h : DataW.trod enc Try.prog W 0 (fun _ => true) true fuel 37 cs = some x) : ∃ ao c xs, cs = [.slice ao (List.length xs) c] ∧ ShR W ao xs ∧ ∀ x ∈ xs, Reads W (.slice x.ao x.len x.cap) x.bs := by
  rcases open_slice Try.underlying37 h with ⟨hcs, hx⟩ | ⟨a, l0, c0, m, n, D, Pl, hcs, _, hl, hm, hmm, hx, hel⟩
  · exact ⟨none, 0, [], hcs, .inl rfl, by simp⟩
  · have hlm : l0 ≤ m := by rw [hmm]; split <;> omega
    have each : ∀ i, i < l0 → ∃ x : Sh, Reads W (.slice x.ao x.len x.cap) x.bs ∧ ∀ j u, x.cells[j]? = some u → W.cell? (a.add (i * 3 + j)) = some u := by
      intro i hi
      obtain ⟨cs', h1, h2⟩ := hel i (by omega)
      rw [Try.cellsOf51] at h1
      obtain ⟨_, hlen, hcell⟩ := World.cells?_some h1
      obtain ⟨e, rfl, hr⟩ := sheet_cells h2
      refine ⟨e, hr, fun j u hu => ?_⟩
      have hj : j < 3 := by
        have := (List.getElem?_eq_some_iff.1 hu).1
        simpa [Sh.cells] using this
      have q := hcell j (by omega)
      rw [add_add] at q
      rw [q, ← hu]
    haveI : Inhabited Sh := ⟨⟨0, 0, none, 0, 0, []⟩⟩
    obtain ⟨f, hf'⟩ := choose_lt each
    refine ⟨some a, c0, (List.range l0).map f, by rw [hcs]; simp, ?_, ?_⟩
    · by_cases h0 : l0 = 0
      · left; simp [h0]
      · right
        have h00 := (hf' 0 (by omega)).2 0 _ rfl
        have hsp : a.spot = none := by
          have := World.cell?_spot h00
          simpa [Addr.add] using this
        obtain ⟨b, off, sp⟩ := a
        simp only at hsp
        subst hsp
        refine ⟨b, off, rfl, ?_, fun i x hx j u hu => ?_⟩
        · have := World.block_lt_of_cell? W _ h00
          simpa [Addr.add] using this
        · simp only [List.getElem?_map] at hx
          by_cases hi : i < l0
          · simp [hi] at hx
            subst hx
            have := (hf' i hi).2 j u hu
            simpa [Addr.add_lit, Nat.add_assoc] using this
          · simp [hi] at hx
    · intro x hx
      obtain ⟨i, hi, rfl⟩ := List.mem_map.1 hx
      exact (hf' i (List.mem_range.1 hi)).1
end
end Go.Proofs.Ytaomhahmpbfjhaa

namespace Go.Proofs.Ytaomhahmpbfjhaa
open Go.ChangeShapes Go.WideShapes Go.ChangeAt Go.RowKit Go.Deep Go.Joins
set_option linter.unusedVariables false

theorem bulk_lits {H : Type} (k : IntKind) (zs : List Int) : Rows.uptoBulkAll (lits (H := H) k zs) = zs.length := by
  induction zs with
  | nil => rfl
  | cons z r ih =>
    simp only [lits, List.map_cons, Rows.uptoBulkAll, Rows.uptoBulk, List.length_cons] at ih ⊢
    omega
theorem bulk_one {H : Type} (d : DataW H) : 1 ≤ Rows.uptoBulk d := by
  cases d with
  | lit l => cases l <;> simp [Rows.uptoBulk]
  | _ => simp [Rows.uptoBulk]
theorem bulk_count {H : Type} (ds : List (DataW H)) : ds.length ≤ Rows.uptoBulkAll ds := by
  induction ds with
  | nil => simp
  | cons d r ih =>
    have := bulk_one d
    simp only [List.length_cons, Rows.uptoBulkAll]
    omega
theorem bulk_mem {H : Type} {d : DataW H} {ds : List (DataW H)} (h : d ∈ ds) : Rows.uptoBulk d ≤ Rows.uptoBulkAll ds := by
  induction ds with
  | nil => simp at h
  | cons a r ih =>
    simp only [Rows.uptoBulkAll]
    rcases List.mem_cons.1 h with rfl | h
    · omega
    · have := ih h
      omega
section
variable {H : Type} {enc : TypeId × Value → H} {W : World} {fuel : Nat} {cs : List Value} {x : DataW H × List MemPlace}
theorem agg_mem {y : DataW H × List MemPlace} {xs : List (DataW H × List MemPlace)} (h : y ∈ xs) : Rows.uptoBulk y.1 ≤ Rows.uptoBulk (.agg (xs.map (·.1)) : DataW H) := by
  have := bulk_mem (List.mem_map_of_mem (f := fun z : DataW H × List MemPlace => z.1) h)
  simp only [Rows.uptoBulk]
  omega
theorem data_bulk (h : DataW.trod enc Try.prog W 0 (fun _ => true) true fuel 36 cs = some x) : ∃ a l c bs, cs = [.slice a l c] ∧ Reads W (.slice a l c) bs ∧ bs.length ≤ Rows.uptoBulk x.1 := by
  obtain ⟨a, l, c, bs, rfl, hr⟩ := data_cells h
  refine ⟨a, l, c, bs, rfl, hr, ?_⟩
  obtain ⟨a', c', e⟩ := hr.form
  simp only [Value.slice.injEq] at e
  obtain ⟨_, el, _⟩ := e
  rcases open_ints Try.underlying36 Try.underlying5 Try.cellsOf5 h with ⟨hcs, hx⟩ | ⟨a, l0, c0, zs, hcs, _, hl, hm, hz, hx, hcell, hwz⟩
  · simp at hcs
    omega
  · simp at hcs
    rw [hx]
    simp only [if_true] at hz
    have h1 := bulk_lits (H := H) .u8 (zs.take l0)
    simp only [Rows.uptoBulk, h1, List.length_take]
    omega
set_option maxRecDepth 100000 in
theorem sheet_bulk (h : DataW.trod enc Try.prog W 0 (fun _ => true) true fuel 51 cs = some x) : ∃ e : Sh, cs = e.cells ∧ Reads W (.slice e.ao e.len e.cap) e.bs ∧ e.bs.length ≤ Rows.uptoBulk x.1 := by
  obtain ⟨xs, f, _, rfl, hl, hlen, hf⟩ := DataW.trod_struct Try.underlying51 h
  have hlen : xs.length = 3 := hlen
  obtain ⟨y0, hy0⟩ := nth hlen (i := 0) (by omega)
  obtain ⟨y1, hy1⟩ := nth hlen (i := 1) (by omega)
  obtain ⟨y2, hy2⟩ := nth hlen (i := 2) (by omega)
  have g0 : DataW.trod enc Try.prog W 0 (fun _ => true) true f 3 ((cs.drop 0).take (Try.prog.cellsOf 3)) = some y0 := (hf 0 _ rfl).trans hy0
  have g1 : DataW.trod enc Try.prog W 0 (fun _ => true) true f 3 ((cs.drop 1).take (Try.prog.cellsOf 3)) = some y1 := (hf 1 _ rfl).trans hy1
  have g2 : DataW.trod enc Try.prog W 0 (fun _ => true) true f 36 ((cs.drop 2).take (Try.prog.cellsOf 36)) = some y2 := (hf 2 _ rfl).trans hy2
  rw [Try.cellsOf3] at g0 g1
  rw [Try.cellsOf36] at g2
  rw [Try.cellsOf51] at hl
  obtain ⟨k, e0, r0, w0⟩ := DataW.trod_int Try.underlying3 g0
  obtain ⟨b, e1, r1, w1⟩ := DataW.trod_int Try.underlying3 g1
  obtain ⟨d1, d2, d3, bs, e2, hr, hb⟩ := data_bulk g2
  exact ⟨⟨k, b, d1, d2, d3, bs⟩, list3 hl e0 e1 e2, hr, Nat.le_trans hb (agg_mem (List.mem_of_getElem? hy2))⟩
set_option maxRecDepth 100000 in
theorem sheets_bulk (h : DataW.trod enc Try.prog W 0 (fun _ => true) true fuel 37 cs = some x) : ∃ ao c xs, cs = [.slice ao (List.length xs) c] ∧ ShR W ao xs ∧ (∀ y ∈ xs, Reads W (.slice y.ao y.len y.cap) y.bs ∧ y.bs.length ≤ Rows.uptoBulk x.1) ∧ xs.length ≤ Rows.uptoBulk x.1 := by
  rcases open_slice Try.underlying37 h with ⟨hcs, hx⟩ | ⟨a, l0, c0, m, n, D, Pl, hcs, _, hl, hm, hmm, hx, hel⟩
  · exact ⟨none, 0, [], hcs, .inl rfl, by simp, by simp⟩
  · have hlm : l0 ≤ m := by rw [hmm]; split <;> omega
    have hcnt := bulk_count ((List.range l0).map D)
    have hle : ∀ i, i < l0 → Rows.uptoBulk (D i) ≤ Rows.uptoBulk x.1 := fun i hi => by
      have h2 := bulk_mem (d := D i) (ds := (List.range l0).map D) (List.mem_map_of_mem (List.mem_range.2 hi))
      rw [hx]
      simp only [Rows.uptoBulk]
      omega
    have each : ∀ i, i < l0 → ∃ y : Sh, (Reads W (.slice y.ao y.len y.cap) y.bs ∧ y.bs.length ≤ Rows.uptoBulk x.1) ∧ ∀ j u, y.cells[j]? = some u → W.cell? (a.add (i * 3 + j)) = some u := by
      intro i hi
      obtain ⟨cs', h1, h2⟩ := hel i (by omega)
      rw [Try.cellsOf51] at h1
      obtain ⟨_, hlen, hcell⟩ := World.cells?_some h1
      obtain ⟨e, rfl, hr, hbb⟩ := sheet_bulk h2
      refine ⟨e, ⟨hr, Nat.le_trans hbb (hle i hi)⟩, fun j u hu => ?_⟩
      have hj : j < 3 := by
        have := (List.getElem?_eq_some_iff.1 hu).1
        simpa [Sh.cells] using this
      have q := hcell j (by omega)
      rw [add_add] at q
      rw [q, ← hu]
    haveI : Inhabited Sh := ⟨⟨0, 0, none, 0, 0, []⟩⟩
    obtain ⟨f, hf'⟩ := choose_lt each
    refine ⟨some a, c0, (List.range l0).map f, by rw [hcs]; simp, ?_, ?_, ?_⟩
    · by_cases h0 : l0 = 0
      · left; simp [h0]
      · right
        have h00 := (hf' 0 (by omega)).2 0 _ rfl
        have hsp : a.spot = none := by
          have := World.cell?_spot h00
          simpa [Addr.add] using this
        obtain ⟨b, off, sp⟩ := a
        simp only at hsp
        subst hsp
        refine ⟨b, off, rfl, ?_, fun i y hy j u hu => ?_⟩
        · have := World.block_lt_of_cell? W _ h00
          simpa [Addr.add] using this
        · simp only [List.getElem?_map] at hy
          by_cases hi : i < l0
          · simp [hi] at hy
            subst hy
            have := (hf' i hi).2 j u hu
            simpa [Addr.add_lit, Nat.add_assoc] using this
          · simp [hi] at hy
    · intro y hy
      obtain ⟨i, hi, rfl⟩ := List.mem_map.1 hy
      exact (hf' i (List.mem_range.1 hi)).1
    · rw [hx]
      simp only [Rows.uptoBulk]
      simp at hcnt ⊢
      omega
set_option maxRecDepth 100000 in
theorem act_bulk (h : DataW.trod enc Try.prog W 0 (fun _ => true) true fuel 39 cs = some x) : ∃ (e : Ac) (ys : List Sh), cs = e.cells ∧ (Rows.uptoBulk x.1 ≤ 1048576 → AcIn W e ys) := by
  obtain ⟨xs, f, _, rfl, hl, hlen, hf⟩ := DataW.trod_struct Try.underlying39 h
  have hlen : xs.length = 6 := hlen
  obtain ⟨y0, hy0⟩ := nth hlen (i := 0) (by omega)
  obtain ⟨y1, hy1⟩ := nth hlen (i := 1) (by omega)
  obtain ⟨y2, hy2⟩ := nth hlen (i := 2) (by omega)
  obtain ⟨y3, hy3⟩ := nth hlen (i := 3) (by omega)
  obtain ⟨y4, hy4⟩ := nth hlen (i := 4) (by omega)
  obtain ⟨y5, hy5⟩ := nth hlen (i := 5) (by omega)
  have g0 : DataW.trod enc Try.prog W 0 (fun _ => true) true f 3 ((cs.drop 0).take (Try.prog.cellsOf 3)) = some y0 := (hf 0 _ rfl).trans hy0
  have g1 : DataW.trod enc Try.prog W 0 (fun _ => true) true f 3 ((cs.drop 1).take (Try.prog.cellsOf 3)) = some y1 := (hf 1 _ rfl).trans hy1
  have g2 : DataW.trod enc Try.prog W 0 (fun _ => true) true f 3 ((cs.drop 2).take (Try.prog.cellsOf 3)) = some y2 := (hf 2 _ rfl).trans hy2
  have g3 : DataW.trod enc Try.prog W 0 (fun _ => true) true f 3 ((cs.drop 3).take (Try.prog.cellsOf 3)) = some y3 := (hf 3 _ rfl).trans hy3
  have g4 : DataW.trod enc Try.prog W 0 (fun _ => true) true f 36 ((cs.drop 4).take (Try.prog.cellsOf 36)) = some y4 := (hf 4 _ rfl).trans hy4
  have g5 : DataW.trod enc Try.prog W 0 (fun _ => true) true f 37 ((cs.drop 5).take (Try.prog.cellsOf 37)) = some y5 := (hf 5 _ rfl).trans hy5
  rw [Try.cellsOf3] at g0 g1 g2 g3
  rw [Try.cellsOf36] at g4
  rw [Try.cellsOf37] at g5
  rw [Try.cellsOf39] at hl
  obtain ⟨k, e0, r0, w0⟩ := DataW.trod_int Try.underlying3 g0
  obtain ⟨b, e1, r1, w1⟩ := DataW.trod_int Try.underlying3 g1
  obtain ⟨m, e2, r2, w2⟩ := DataW.trod_int Try.underlying3 g2
  obtain ⟨t, e3, r3, w3⟩ := DataW.trod_int Try.underlying3 g3
  obtain ⟨d1, d2, d3, bs, e4, hr, hb4⟩ := data_bulk g4
  obtain ⟨l1, l3, ys, e5, hR, hD, hb5⟩ := sheets_bulk g5
  have q4 := agg_mem (List.mem_of_getElem? hy4)
  have q5 := agg_mem (List.mem_of_getElem? hy5)
  have ht := i64_wf w3
  refine ⟨⟨k, b, m, t, d1, d2, d3, l1, ys.length, l3, bs⟩, ys, list6 hl e0 e1 e2 e3 e4 e5, fun hb0 => ?_⟩
  have hb : Rows.uptoBulk (.agg (xs.map (·.1)) : DataW H) ≤ 1048576 := hb0
  refine ⟨hr, ?_, rfl, hR, fun y hy => ⟨(hD y hy).1, ?_⟩, ?_, ?_⟩
  · simp only; omega
  · have := (hD y hy).2; omega
  · omega
  · simp only; omega

set_option maxRecDepth 100000 in
/-- A script that came in. -/
theorem open_actsB {v : Value} {d : DataW H} {p : List MemPlace} (h : DataW.Trod enc Try.prog W 0 (fun _ => true) true 22 v d p) (hv : ∃ a l c, v = .slice a l c) (hb : Rows.uptoBulk d ≤ 1048576) :
    ∃ xs, ActsAt W v xs ∧ (∀ x ∈ xs, ∃ ys, AcIn W x ys) ∧ xs.length ≤ 1048576 := by
  obtain ⟨fuel, hf⟩ := h
  obtain ⟨a0, l0, c0, rfl⟩ := hv
  rcases open_slice Try.underlying22 hf with ⟨hcs, hx⟩ | ⟨a, len, cap, m, n, D, Pl, hcs, _, hl, hm, hmm, hx, hel⟩
  · simp [Value.cells] at hcs
    obtain ⟨rfl, rfl, rfl⟩ := hcs
    exact ⟨[], ⟨none, 0, rfl, Or.inl rfl⟩, by simp, by simp⟩
  · simp [Value.cells] at hcs
    obtain ⟨rfl, rfl, rfl⟩ := hcs
    have hlm : l0 ≤ m := by rw [hmm]; split <;> omega
    simp only [Prod.mk.injEq] at hx
    obtain ⟨rfl, _⟩ := hx
    have hcnt := bulk_count ((List.range l0).map D)
    have hle : ∀ i, i < l0 → Rows.uptoBulk (D i) ≤ 1048576 := fun i hi => by
      have h2 := bulk_mem (d := D i) (ds := (List.range l0).map D) (List.mem_map_of_mem (List.mem_range.2 hi))
      simp only [Rows.uptoBulk] at hb
      omega
    have each : ∀ i, i < l0 → ∃ x : Ac, (∃ ys, AcIn W x ys) ∧ ∀ j u, x.cells[j]? = some u → W.cell? (a.add (i * 6 + j)) = some u := by
      intro i hi
      obtain ⟨cs', h1, h2⟩ := hel i (by omega)
      rw [Try.cellsOf39] at h1
      obtain ⟨_, hlen, hcell⟩ := World.cells?_some h1
      obtain ⟨e, ys, rfl, hr⟩ := act_bulk h2
      refine ⟨e, ⟨ys, hr (hle i hi)⟩, fun j u hu => ?_⟩
      have hj : j < 6 := by
        have := (List.getElem?_eq_some_iff.1 hu).1
        simpa [Ac.cells] using this
      have q := hcell j (by omega)
      rw [add_add] at q
      rw [q, ← hu]
    haveI : Inhabited Ac := ⟨⟨0, 0, 0, 0, none, 0, 0, none, 0, 0, []⟩⟩
    obtain ⟨f, hf'⟩ := choose_lt each
    refine ⟨(List.range l0).map f, ⟨some a, c0, by simp, ?_⟩, ?_, ?_⟩
    · by_cases h0 : l0 = 0
      · left; simp [h0]
      · right
        have h00 := (hf' 0 (by omega)).2 0 _ rfl
        have hsp : a.spot = none := by
          have := World.cell?_spot h00
          simpa [Addr.add] using this
        obtain ⟨b, off, sp⟩ := a
        simp only at hsp
        subst hsp
        refine ⟨b, off, rfl, ?_, ?_⟩
        · have := World.block_lt_of_cell? W _ h00
          simpa [Addr.add] using this
        · intro i x hx
          simp only [List.getElem?_map] at hx
          by_cases hi : i < l0
          · simp [hi] at hx
            subst hx
            refine ⟨fun j u hu => ?_, (hf' i hi).1.elim fun ys h => h.rd⟩
            have := (hf' i hi).2 j u hu
            simpa [Addr.add_lit, Nat.add_assoc] using this
          · simp [hi] at hx
    · intro x hx
      obtain ⟨i, hi, rfl⟩ := List.mem_map.1 hx
      exact (hf' i (List.mem_range.1 hi)).1
    · simp only [Rows.uptoBulk] at hb
      simp at hcnt ⊢
      omega
end
end Go.Proofs.Ytaomhahmpbfjhaa

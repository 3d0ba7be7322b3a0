import Derived.Test.YtkcepkehgkkkbaaDoorOpenO
import Derived.Test.YtkcepkehgkkkbaaDoorWLaw
namespace Go.Proofs.YtkcepkehgkkkbaaDoor
open Go.ChangeShapes Go.WideShapes Go.ChangeAt Go.RowKit Go.Deep Go.Joins
set_option linter.unusedVariables false

theorem Tryd.cells39 : Tryd.prog.cellsOf 39 = 10 := by kernel_rfl

theorem bulk_strs {H : Type} (Sx : Nat → ByteArray) (l : List Nat) : bulkT (l.map Sx) + l.length ≤ 11 * Rows.uptoBulkAll (l.map fun i => (.lit (.string (Sx i).data.toList) : DataW H)) := by
  induction l with
  | nil => simp [bulkT]
  | cons i r ih =>
    have h1 := str_len (Sx i)
    simp only [bulkT, List.map_cons, List.sum_cons, Rows.uptoBulkAll, Rows.uptoBulk, List.length_cons] at ih ⊢
    omega

section
variable {H : Type} {enc : TypeId × Value → H} {W : World} {base : Nat} {sp : Nat → Bool} {held : Bool} {fuel : Nat} {cs : List Value} {x : DataW H × List MemPlace}

theorem texts_bulk (h : DataW.trod enc Tryd.prog W base sp held fuel 24 cs = some x) : ∃ s l, cs = [s] ∧ (Txts W s l ∧ NilOk s) ∧ bulkT l + l.length ≤ 11 * Rows.uptoBulk x.1 := by
  rcases open_strs Tryd.underlying24 Tryd.underlying9 Tryd.cells9 h with ⟨rfl, _⟩ | ⟨a, len, cap, m, Sx, rfl, _, hl, hm, hmm, hx, hc⟩
  · exact ⟨_, [], rfl, ⟨⟨none, 0, rfl, by simp, Or.inl rfl⟩, fun n c h => by cases h; rfl⟩, by simp [bulkT]⟩
  · have hlm : len ≤ m := by rw [hmm]; split <;> omega
    refine ⟨_, (List.range len).map Sx, rfl, ⟨⟨some a, cap, by simp, by simpa using hl, ?_⟩, fun n c h => by cases h⟩, ?_⟩
    · by_cases h0 : len = 0
      · left; subst h0; rfl
      · right
        have hc0 := (hc 0 (by omega)).1
        have hsp : a.spot = none := by
          have := World.cell?_spot hc0
          simpa [Addr.add] using this
        obtain ⟨b, off, sp'⟩ := a
        simp only at hsp
        subst hsp
        refine ⟨b, off, rfl, ?_, fun j hj => ?_⟩
        · have := World.block_lt_of_cell? W _ hc0
          simpa [Addr.add] using this
        · have hj' : j < len := by simpa using hj
          have h1 := (hc j (by omega)).1
          rw [Addr.add_lit] at h1
          rw [h1]
          simp
    · have := bulk_strs (H := H) Sx (List.range len)
      rw [hx]
      simp only [Rows.uptoBulk, List.length_map] at this ⊢
      omega

set_option maxRecDepth 100000 in
theorem res_bulk (h : DataW.trod enc Tryd.prog W base sp held fuel 26 cs = some x) : ∃ c n s l, cs = [.int .i64 c, .int .i64 n, s] ∧ (Txts W s l ∧ NilOk s) ∧ bulkT l + l.length ≤ 11 * Rows.uptoBulk x.1 ∧ i64 c ∧ i64 n := by
  obtain ⟨xs, f, _, rfl, hl, hlen, hf⟩ := DataW.trod_struct Tryd.underlying26 h
  have hlen : xs.length = 3 := hlen
  obtain ⟨y0, hy0⟩ := nth hlen (i := 0) (by omega)
  obtain ⟨y1, hy1⟩ := nth hlen (i := 1) (by omega)
  obtain ⟨y2, hy2⟩ := nth hlen (i := 2) (by omega)
  have g0 : DataW.trod enc Tryd.prog W base sp held f 3 ((cs.drop 0).take (Tryd.prog.cellsOf 3)) = some y0 := (hf 0 _ rfl).trans hy0
  have g1 : DataW.trod enc Tryd.prog W base sp held f 3 ((cs.drop 1).take (Tryd.prog.cellsOf 3)) = some y1 := (hf 1 _ rfl).trans hy1
  have g2 : DataW.trod enc Tryd.prog W base sp held f 24 ((cs.drop 2).take (Tryd.prog.cellsOf 24)) = some y2 := (hf 2 _ rfl).trans hy2
  rw [Tryd.cells3] at g0 g1
  rw [Tryd.cells24] at g2
  rw [Tryd.cells26] at hl
  obtain ⟨c, e0, r0, w0⟩ := DataW.trod_int Tryd.underlying3 g0
  obtain ⟨n, e1, r1, w1⟩ := DataW.trod_int Tryd.underlying3 g1
  obtain ⟨s, l, e2, ht, hb⟩ := texts_bulk g2
  refine ⟨c, n, s, l, list3 hl e0 e1 e2, ht, ?_, i64_wf w0, i64_wf w1⟩
  have hxs : xs = [y0, y1, y2] := by
    apply List.ext_getElem?
    intro i
    obtain rfl | rfl | rfl | hi : i = 0 ∨ i = 1 ∨ i = 2 ∨ 3 ≤ i := by omega
    · exact hy0
    · exact hy1
    · exact hy2
    · rw [List.getElem?_eq_none (by omega), List.getElem?_eq_none (by simpa using hi)]
  subst hxs
  simp only [List.map_cons, List.map_nil, Rows.uptoBulk, Rows.uptoBulkAll]
  omega

theorem list10 {l : List Value} {a b c d e f g h i j : Value} (hl : l.length = 10) (h0 : (l.drop 0).take 1 = [a]) (h1 : (l.drop 1).take 1 = [b]) (h2 : (l.drop 2).take 5 = [c, d, e, f, g]) (h3 : (l.drop 7).take 3 = [h, i, j]) : l = [a, b, c, d, e, f, g, h, i, j] := by
  match l, hl with
  | [x0, x1, x2, x3, x4, x5, x6, x7, x8, x9], _ => simp at h0 h1 h2 h3; simp [h0, h1, h2, h3]

def Wt.cells (e : Wt) : List Value := [.int .i64 e.kind, .int .i64 e.N, .int .i64 e.k, .string e.nm, .string e.tx, .int .i64 e.n, .int .i64 e.m, .int .i64 e.c, .int .i64 e.x, e.s]

set_option maxRecDepth 100000 in
theorem wt_cells (h : DataW.trod enc Tryd.prog W base sp held fuel 39 cs = some x) : ∃ e : Wt, cs = e.cells ∧ (Txts W e.s e.items ∧ NilOk e.s) ∧ e.Ok ∧ e.wt ≤ 111 * Rows.uptoBulk x.1 := by
  obtain ⟨xs, f, _, rfl, hl, hlen, hf⟩ := DataW.trod_struct Tryd.underlying39 h
  have hlen : xs.length = 4 := hlen
  obtain ⟨y0, hy0⟩ := nth hlen (i := 0) (by omega)
  obtain ⟨y1, hy1⟩ := nth hlen (i := 1) (by omega)
  obtain ⟨y2, hy2⟩ := nth hlen (i := 2) (by omega)
  obtain ⟨y3, hy3⟩ := nth hlen (i := 3) (by omega)
  have g0 : DataW.trod enc Tryd.prog W base sp held f 3 ((cs.drop 0).take (Tryd.prog.cellsOf 3)) = some y0 := (hf 0 _ rfl).trans hy0
  have g1 : DataW.trod enc Tryd.prog W base sp held f 3 ((cs.drop 1).take (Tryd.prog.cellsOf 3)) = some y1 := (hf 1 _ rfl).trans hy1
  have g2 : DataW.trod enc Tryd.prog W base sp held f 23 ((cs.drop 2).take (Tryd.prog.cellsOf 23)) = some y2 := (hf 2 _ rfl).trans hy2
  have g3 : DataW.trod enc Tryd.prog W base sp held f 26 ((cs.drop 7).take (Tryd.prog.cellsOf 26)) = some y3 := (hf 3 _ rfl).trans hy3
  rw [Tryd.cells3] at g0 g1
  rw [Tryd.cells23] at g2
  rw [Tryd.cells26] at g3
  rw [Tryd.cells39] at hl
  obtain ⟨kind, e0, r0, w0⟩ := DataW.trod_int Tryd.underlying3 g0
  obtain ⟨N, e1, r1, w1⟩ := DataW.trod_int Tryd.underlying3 g1
  obtain ⟨k, nm, tx, n, m, e2, d2, ok2⟩ := op_cells g2
  obtain ⟨c, z, s, l, e3, ht, hb, hc, hz⟩ := res_bulk g3
  refine ⟨⟨kind, N, k, nm, tx, n, m, c, z, s, l⟩, list10 hl e0 e1 e2 e3, ht, ⟨i64_wf w0, i64_wf w1, ok2.n, ok2.m, hc, hz⟩, ?_⟩
  have hxs : xs = [y0, y1, y2, y3] := by
    apply List.ext_getElem?
    intro i
    obtain rfl | rfl | rfl | rfl | hi : i = 0 ∨ i = 1 ∨ i = 2 ∨ i = 3 ∨ 4 ≤ i := by omega
    · exact hy0
    · exact hy1
    · exact hy2
    · exact hy3
    · rw [List.getElem?_eq_none (by omega), List.getElem?_eq_none (by simpa using hi)]
  subst hxs
  have q1 := str_len nm
  have q2 := str_len tx
  simp only [List.map_cons, List.map_nil, Rows.uptoBulk, Rows.uptoBulkAll, d2, opD, Wt.wt]
  omega

theorem total_bulk (f : Nat → Wt) (D : Nat → DataW H) (l : List Nat) (h : ∀ i ∈ l, (f i).wt ≤ 111 * Rows.uptoBulk (D i)) : total (l.map f) ≤ 111 * Rows.uptoBulkAll (l.map D) := by
  induction l with
  | nil => simp [total]
  | cons i r ih =>
    have h1 := ih (fun j hj => h j (by simp [hj]))
    have h2 := h i (by simp)
    simp only [total, List.map_cons, List.sum_cons, Rows.uptoBulkAll] at h1 ⊢
    omega
end

theorem bulk_pos {H : Type} (d : DataW H) : 1 ≤ Rows.uptoBulk d := by
  cases d with
  | lit l => cases l <;> simp [Rows.uptoBulk]
  | _ => simp [Rows.uptoBulk]
theorem bulk_len {H : Type} (D : Nat → DataW H) (l : List Nat) : l.length ≤ Rows.uptoBulkAll (l.map D) := by
  induction l with
  | nil => simp
  | cons i r ih =>
    have h2 := bulk_pos (D i)
    simp only [List.map_cons, Rows.uptoBulkAll, List.length_cons]
    omega

set_option maxRecDepth 100000 in
/-- A script that came in. -/
theorem open_script {H : Type} {enc : TypeId × Value → H} {W : World} {v : Value} {d : DataW H} {p : List MemPlace} (h : DataW.Trod enc Tryd.prog W 0 (fun _ => true) true 33 v d p) (hv : ∃ a l c, v = .slice a l c) :
    ∃ xs, ScriptAt W v xs ∧ total xs ≤ 111 * Rows.uptoBulk d ∧ xs.length ≤ Rows.uptoBulk d := by
  obtain ⟨fuel, hf⟩ := h
  obtain ⟨a0, l0, c0, rfl⟩ := hv
  rcases open_slice Tryd.underlying33 hf with ⟨hcs, hx⟩ | ⟨a, len, cap, m, n, D, Pl, hcs, _, hl, hm, hmm, hx, hel⟩
  · simp [Value.cells] at hcs
    obtain ⟨rfl, rfl, rfl⟩ := hcs
    exact ⟨[], ⟨none, 0, rfl, by simp, fun i hi => absurd hi (by simp)⟩, by simp [total], by simp⟩
  · simp [Value.cells] at hcs
    obtain ⟨rfl, rfl, rfl⟩ := hcs
    have hlm : l0 ≤ m := by rw [hmm]; split <;> omega
    simp only [Prod.mk.injEq] at hx
    obtain ⟨rfl, _⟩ := hx
    have each : ∀ i, i < l0 → ∃ e : Wt, (Txts W e.s e.items ∧ NilOk e.s) ∧ e.Ok ∧ e.wt ≤ 111 * Rows.uptoBulk (D i) ∧ ∀ j u, e.cells[j]? = some u → W.cell? (a.add (i * 10 + j)) = some u := by
      intro i hi
      obtain ⟨cs', h1, h2⟩ := hel i (by omega)
      rw [Tryd.cells39] at h1
      obtain ⟨_, hlen, hcell⟩ := World.cells?_some h1
      obtain ⟨e, rfl, ht, ok, hw⟩ := wt_cells h2
      refine ⟨e, ht, ok, hw, fun j u hu => ?_⟩
      have hj : j < 10 := by
        have := (List.getElem?_eq_some_iff.1 hu).1
        simpa [Wt.cells] using this
      have q := hcell j (by omega)
      rw [add_add] at q
      rw [q, ← hu]
    haveI : Inhabited Wt := ⟨⟨0, 0, 0, ⟨#[]⟩, ⟨#[]⟩, 0, 0, 0, 0, .slice none 0 0, []⟩⟩
    obtain ⟨f, hf'⟩ := choose_lt each
    refine ⟨(List.range l0).map f, ⟨some a, c0, by simp, by simp; omega, fun i hi => ?_⟩, ?_, ?_⟩
    · have hi' : i < l0 := by simpa using hi
      have h00 := (hf' 0 (by omega)).2.2.2 0 _ rfl
      have hsp : a.spot = none := by
        have := World.cell?_spot h00
        simpa [Addr.add] using this
      obtain ⟨b, off, sp⟩ := a
      simp only at hsp
      subst hsp
      have hcell := (hf' i hi').2.2.2
      simp only [Addr.add_lit] at hcell
      have eg : ((List.range l0).map f)[i] = f i := by simp
      rw [eg]
      refine ⟨b, off, rfl, ?_, ⟨?_, ?_, ?_, ?_, ?_, ?_, ?_, ?_, ?_, ?_⟩, (hf' i hi').1, (hf' i hi').2.1⟩
      · have := World.block_lt_of_cell? W _ h00
        simpa [Addr.add] using this
      · exact hcell 0 _ rfl
      · have := hcell 1 _ rfl; rw [← Nat.add_assoc] at this; exact this
      · have := hcell 2 _ rfl; rw [← Nat.add_assoc] at this; exact this
      · have := hcell 3 _ rfl; rw [← Nat.add_assoc] at this; exact this
      · have := hcell 4 _ rfl; rw [← Nat.add_assoc] at this; exact this
      · have := hcell 5 _ rfl; rw [← Nat.add_assoc] at this; exact this
      · have := hcell 6 _ rfl; rw [← Nat.add_assoc] at this; exact this
      · have := hcell 7 _ rfl; rw [← Nat.add_assoc] at this; exact this
      · have := hcell 8 _ rfl; rw [← Nat.add_assoc] at this; exact this
      · have := hcell 9 _ rfl; rw [← Nat.add_assoc] at this; exact this
    · have := total_bulk f D (List.range l0) (fun i hi => (hf' i (List.mem_range.1 hi)).2.2.1)
      simp only [Rows.uptoBulk]
      omega
    · have := bulk_len D (List.range l0)
      simp only [Rows.uptoBulk, List.length_map] at this ⊢
      omega
end Go.Proofs.YtkcepkehgkkkbaaDoor

import Derived.Test.YtkcepkehgkkkbaaGreatDoorLaid
import Derived.Deep.Strs
namespace Go.Proofs.YtkcepkehgkkkbaaGreatDoor
open Go.ChangeShapes Go.WideShapes Go.ChangeAt Go.RowKit Go.Deep Go.Joins
set_option linter.unusedVariables false

/-- A world for the witness. -/
noncomputable def laidWorld (os : Os) : World :=
  { World.holding Tryz.prog os ⟨#[], #[], []⟩ with heap := (World.holding Tryz.prog os ⟨#[], #[], []⟩).heap.modify 0 fun
      | .cells _ t frozen => .cells (formN.map fun n : Int => Value.int .i64 n).toArray t frozen
      | o => o }

theorem i64_wf {n : Int} (h : (Lit.int .i64 n).wf = true) : -9223372036854775808 ≤ n ∧ n < 9223372036854775808 := by
  have : -9223372036854775808 ≤ n ∧ n ≤ 9223372036854775807 := by simpa [Lit.wf, IntKind.min, IntKind.max, IntKind.signed, IntKind.bits] using h
  omega

theorem list5 {l : List Value} {a b c d e : Value} (hl : l.length = 5) (h0 : (l.drop 0).take 1 = [a]) (h1 : (l.drop 1).take 1 = [b]) (h2 : (l.drop 2).take 1 = [c]) (h3 : (l.drop 3).take 1 = [d]) (h4 : (l.drop 4).take 1 = [e]) : l = [a, b, c, d, e] := by
  match l, hl with
  | [x0, x1, x2, x3, x4], _ => simp at h0 h1 h2 h3 h4; simp [h0, h1, h2, h3, h4]
theorem list3 {l : List Value} {a b c : Value} (hl : l.length = 3) (h0 : (l.drop 0).take 1 = [a]) (h1 : (l.drop 1).take 1 = [b]) (h2 : (l.drop 2).take 1 = [c]) : l = [a, b, c] := by
  match l, hl with
  | [x0, x1, x2], _ => simp at h0 h1 h2; simp [h0, h1, h2]

section
variable {H : Type} {enc : TypeId × Value → H} {W : World} {base : Nat} {sp : Nat → Bool} {held : Bool} {fuel : Nat} {cs : List Value} {x : DataW H × List MemPlace}
def opD (k : Int) (nm tx : ByteArray) (n m : Int) : DataW H := .agg [.lit (.int .i64 k), .lit (.string nm.data.toList), .lit (.string tx.data.toList), .lit (.int .i64 n), .lit (.int .i64 m)]
structure OpOk (k : Int) (nm tx : ByteArray) (n m : Int) : Prop where
  k : -9223372036854775808 ≤ k ∧ k < 9223372036854775808
  n : -9223372036854775808 ≤ n ∧ n < 9223372036854775808
  m : -9223372036854775808 ≤ m ∧ m < 9223372036854775808
  nm : nm.size ≤ maxLen
  tx : tx.size ≤ maxLen

theorem nth {α : Type} {l : List α} {n i : Nat} (hl : l.length = n) (hi : i < n) : ∃ y, l[i]? = some y := ⟨_, List.getElem?_eq_getElem (by omega)⟩

set_option maxRecDepth 100000 in
/-- An op's cells. -/
theorem op_cells (h : DataW.trod enc Tryz.prog W base sp held fuel 35 cs = some x) : ∃ k nm tx n m, cs = [.int .i64 k, .string nm, .string tx, .int .i64 n, .int .i64 m] ∧ x.1 = opD k nm tx n m ∧ OpOk k nm tx n m := by
  obtain ⟨xs, f, _, rfl, hl, hlen, hf⟩ := DataW.trod_struct Tryz.underlying35 h
  have hlen : xs.length = 5 := hlen
  obtain ⟨y0, hy0⟩ := nth hlen (i := 0) (by omega)
  obtain ⟨y1, hy1⟩ := nth hlen (i := 1) (by omega)
  obtain ⟨y2, hy2⟩ := nth hlen (i := 2) (by omega)
  obtain ⟨y3, hy3⟩ := nth hlen (i := 3) (by omega)
  obtain ⟨y4, hy4⟩ := nth hlen (i := 4) (by omega)
  have g0 : DataW.trod enc Tryz.prog W base sp held f 3 ((cs.drop 0).take (Tryz.prog.cellsOf 3)) = some y0 := (hf 0 _ rfl).trans hy0
  have g1 : DataW.trod enc Tryz.prog W base sp held f 9 ((cs.drop 1).take (Tryz.prog.cellsOf 9)) = some y1 := (hf 1 _ rfl).trans hy1
  have g2 : DataW.trod enc Tryz.prog W base sp held f 9 ((cs.drop 2).take (Tryz.prog.cellsOf 9)) = some y2 := (hf 2 _ rfl).trans hy2
  have g3 : DataW.trod enc Tryz.prog W base sp held f 3 ((cs.drop 3).take (Tryz.prog.cellsOf 3)) = some y3 := (hf 3 _ rfl).trans hy3
  have g4 : DataW.trod enc Tryz.prog W base sp held f 3 ((cs.drop 4).take (Tryz.prog.cellsOf 3)) = some y4 := (hf 4 _ rfl).trans hy4
  rw [Tryz.cells3] at g0 g3 g4
  rw [Tryz.cells9] at g1 g2
  rw [Tryz.cells35] at hl
  obtain ⟨k, e0, r0, w0⟩ := DataW.trod_int Tryz.underlying3 g0
  obtain ⟨nm, e1, r1, w1⟩ := DataW.trod_string Tryz.underlying9 g1
  obtain ⟨tx, e2, r2, w2⟩ := DataW.trod_string Tryz.underlying9 g2
  obtain ⟨n, e3, r3, w3⟩ := DataW.trod_int Tryz.underlying3 g3
  obtain ⟨m, e4, r4, w4⟩ := DataW.trod_int Tryz.underlying3 g4
  refine ⟨k, nm, tx, n, m, list5 hl e0 e1 e2 e3 e4, ?_, ⟨i64_wf w0, i64_wf w3, i64_wf w4, w1, w2⟩⟩
  have hxs : xs = [y0, y1, y2, y3, y4] := by
    apply List.ext_getElem?
    intro i
    obtain rfl | rfl | rfl | rfl | rfl | hi : i = 0 ∨ i = 1 ∨ i = 2 ∨ i = 3 ∨ i = 4 ∨ 5 ≤ i := by omega
    · exact hy0
    · exact hy1
    · exact hy2
    · exact hy3
    · exact hy4
    · rw [List.getElem?_eq_none (by omega), List.getElem?_eq_none (by simpa using hi)]
  subst hxs r0 r1 r2 r3 r4
  rfl

/-- Texts that came in. -/
theorem texts_cells (h : DataW.trod enc Tryz.prog W base sp held fuel 39 cs = some x) : ∃ s l, cs = [s] ∧ Txts W s l ∧ l.length ≤ maxLen ∧ (∀ t ∈ l, t.size ≤ maxLen) := by
  rcases open_strs Tryz.underlying39 Tryz.underlying9 Tryz.cells9 h with ⟨rfl, _⟩ | ⟨a, len, cap, m, Sx, rfl, _, hl, hm, hmm, _, hc⟩
  · exact ⟨_, [], rfl, ⟨none, 0, rfl, by simp, Or.inl rfl⟩, by simp, by simp⟩
  · have hlm : len ≤ m := by rw [hmm]; split <;> omega
    refine ⟨_, (List.range len).map Sx, rfl, ⟨some a, cap, by simp, by simpa using hl, ?_⟩, by simp; omega, fun t ht => ?_⟩
    · by_cases h0 : len = 0
      · left; subst h0; rfl
      · right
        have hc0 := (hc 0 (by omega)).1
        have hsp : a.spot = none := by
          have := World.cell?_spot hc0
          simpa [Addr.add] using this
        obtain ⟨b, off, sp'⟩ := a
        simp only at hsp
        subst hsp
        refine ⟨b, off, rfl, ?_, fun j hj => ?_⟩
        · have := World.block_lt_of_cell? W _ hc0
          simpa [Addr.add] using this
        · have hj' : j < len := by simpa using hj
          have h1 := (hc j (by omega)).1
          rw [Addr.add_lit] at h1
          rw [h1]
          simp
    · obtain ⟨i, hi, rfl⟩ := List.mem_map.1 ht
      exact (hc i (by have := List.mem_range.1 hi; omega)).2

set_option maxRecDepth 100000 in
/-- A result's cells. -/
theorem res_cells (h : DataW.trod enc Tryz.prog W base sp held fuel 41 cs = some x) : ∃ c n s l, cs = [.int .i64 c, .int .i64 n, s] ∧ Txts W s l ∧ l.length ≤ maxLen ∧ (∀ t ∈ l, t.size ≤ maxLen) ∧ (-9223372036854775808 ≤ c ∧ c < 9223372036854775808) ∧ (-9223372036854775808 ≤ n ∧ n < 9223372036854775808) := by
  obtain ⟨xs, f, _, rfl, hl, hlen, hf⟩ := DataW.trod_struct Tryz.underlying41 h
  have hlen : xs.length = 3 := hlen
  obtain ⟨y0, hy0⟩ := nth hlen (i := 0) (by omega)
  obtain ⟨y1, hy1⟩ := nth hlen (i := 1) (by omega)
  obtain ⟨y2, hy2⟩ := nth hlen (i := 2) (by omega)
  have g0 : DataW.trod enc Tryz.prog W base sp held f 3 ((cs.drop 0).take (Tryz.prog.cellsOf 3)) = some y0 := (hf 0 _ rfl).trans hy0
  have g1 : DataW.trod enc Tryz.prog W base sp held f 3 ((cs.drop 1).take (Tryz.prog.cellsOf 3)) = some y1 := (hf 1 _ rfl).trans hy1
  have g2 : DataW.trod enc Tryz.prog W base sp held f 39 ((cs.drop 2).take (Tryz.prog.cellsOf 39)) = some y2 := (hf 2 _ rfl).trans hy2
  rw [Tryz.cells3] at g0 g1
  rw [Tryz.cells39] at g2
  rw [Tryz.cells41] at hl
  obtain ⟨c, e0, r0, w0⟩ := DataW.trod_int Tryz.underlying3 g0
  obtain ⟨n, e1, r1, w1⟩ := DataW.trod_int Tryz.underlying3 g1
  obtain ⟨s, l, e2, ht, hl2, hb⟩ := texts_cells g2
  exact ⟨c, n, s, l, list3 hl e0 e1 e2, ht, hl2, hb, i64_wf w0, i64_wf w1⟩

/-- An op that came in. -/
theorem open_op {v : Value} {d : DataW H} {p : List MemPlace} (h : DataW.Trod enc Tryz.prog W 0 (fun _ => true) true 35 v d p) (hv : ∃ cs, v = .agg cs ∧ cs.size = Tryz.prog.cellsOf 35) : ∃ k nm tx n m, v = opV k nm tx n m ∧ OpOk k nm tx n m := by
  obtain ⟨fuel, hf⟩ := h
  obtain ⟨cs, rfl, _⟩ := hv
  obtain ⟨k, nm, tx, n, m, e, _, ok⟩ := op_cells hf
  refine ⟨k, nm, tx, n, m, ?_, ok⟩
  obtain ⟨l⟩ := cs
  have e : l = _ := e
  rw [e]
/-- A result that came in. -/
theorem open_res {v : Value} {d : DataW H} {p : List MemPlace} (h : DataW.Trod enc Tryz.prog W 0 (fun _ => true) true 41 v d p) (hv : ∃ cs, v = .agg cs ∧ cs.size = Tryz.prog.cellsOf 41) : ∃ c n s l, v = resV c n s ∧ Txts W s l ∧ l.length ≤ maxLen ∧ (∀ t ∈ l, t.size ≤ maxLen) ∧ (-9223372036854775808 ≤ c ∧ c < 9223372036854775808) ∧ (-9223372036854775808 ≤ n ∧ n < 9223372036854775808) := by
  obtain ⟨fuel, hf⟩ := h
  obtain ⟨cs, rfl, _⟩ := hv
  obtain ⟨c, n, s, l, e, r⟩ := res_cells hf
  refine ⟨c, n, s, l, ?_, r⟩
  obtain ⟨q⟩ := cs
  have e : q = _ := e
  rw [e]
end
end Go.Proofs.YtkcepkehgkkkbaaGreatDoor

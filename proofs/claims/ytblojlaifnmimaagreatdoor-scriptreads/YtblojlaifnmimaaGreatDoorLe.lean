import Derived.Test.YtblojlaifnmimaaGreatDoorLd
import Derived.ProofKit
import Derived.OpenShut
import Derived.SizedLaws
import Derived.Deep.DeepHandedRow
import Derived.Deep.Slices
import Derived.Lib.LaidTab
import Derived.Lib.SmallJoins
import Derived.Deep.Strs
namespace Go.Proofs.YtblojlaifnmimaaGreatDoor
open Go.ChangeShapes Go.WideShapes Go.ChangeAt Go.RowKit Go.Deep Go.Joins
set_option linter.unusedVariables false

theorem Tryz.gTab : Tryz.prog.globalNamed "flotilla/shelf.forms" = some 2 := by kernel_rfl
theorem Tryz.gTabType : (Tryz.prog.globals[2]?).map (·.type) = some 146 := by kernel_rfl
theorem Tryz.cells146 : Tryz.prog.cellsOf 146 = 72 := by kernel_rfl
theorem Tryz.cells145 : Tryz.prog.cellsOf 145 = 8 := by kernel_rfl
theorem Tryz.cells143 : Tryz.prog.cellsOf 143 = 2 := by kernel_rfl
theorem Tryz.cells3 : Tryz.prog.cellsOf 3 = 1 := by kernel_rfl
theorem Tryz.und146 : Tryz.prog.underlying 146 = some (.array 9 145) := by kernel_rfl

theorem map_at {α β : Type} {f : α → β} {xs : List α} {ys : List β} (h : xs.map f = ys) {i : Nat} {d : β} (hd : ys[i]? = some d) : ∃ y, xs[i]? = some y ∧ f y = d := by
  rw [← h, List.getElem?_map, Option.map_eq_some_iff] at hd
  exact hd

section
variable {H : Type} {enc : TypeId × Value → H} {W : World} {base : Nat} {sp : Nat → Bool} {held : Bool} {fuel : Nat} {cs : List Value} {p : List MemPlace}
def spanD (a b : Int) : DataW H := .agg [.lit (.int .i64 a), .lit (.int .i64 b)]
theorem int_cells {n : Nat} {x : DataW H × List MemPlace} {a : Int} (h : DataW.trod enc Tryz.prog W base sp held n 3 cs = some x) (hx : x.1 = .lit (.int .i64 a)) : cs = [.int .i64 a] := by
  obtain ⟨z, e, r, _⟩ := DataW.trod_int Tryz.underlying3 h
  subst r
  simp only [DataW.lit.injEq, Lit.int.injEq, true_and] at hx
  subst hx
  exact e
theorem list2 {l : List Value} {a b : Value} (hl : l.length = 2) (h0 : (l.drop 0).take 1 = [a]) (h1 : (l.drop 1).take 1 = [b]) : l = [a, b] := by
  match l, hl with
  | [x, y], _ => simp at h0 h1; simp [h0, h1]
theorem list8 {l : List Value} {a b c d e f g h : Value} (hl : l.length = 8) (h0 : (l.drop 0).take 2 = [a, b]) (h1 : (l.drop 2).take 2 = [c, d]) (h2 : (l.drop 4).take 2 = [e, f]) (h3 : (l.drop 6).take 2 = [g, h]) : l = [a, b, c, d, e, f, g, h] := by
  match l, hl with
  | [x0, x1, x2, x3, x4, x5, x6, x7], _ => simp at h0 h1 h2 h3; simp [h0, h1, h2, h3]
set_option maxRecDepth 100000 in
theorem span_cells {x : DataW H × List MemPlace} {a b : Int} (h : DataW.trod enc Tryz.prog W base sp held fuel 143 cs = some x) (hx : x.1 = spanD a b) : cs = [.int .i64 a, .int .i64 b] := by
  obtain ⟨xs, n, _, hx', hl, hlen, hf⟩ := DataW.trod_struct Tryz.underlying143 h
  subst hx'
  have hx : xs.map (·.1) = [.lit (.int .i64 a), .lit (.int .i64 b)] := by simp only [spanD] at hx; injection hx
  obtain ⟨y0, hy0, e0⟩ := map_at hx (i := 0) rfl
  obtain ⟨y1, hy1, e1⟩ := map_at hx (i := 1) rfl
  have g0 : DataW.trod enc Tryz.prog W base sp held n 3 ((cs.drop 0).take (Tryz.prog.cellsOf 3)) = some y0 := (hf 0 _ rfl).trans hy0
  have g1 : DataW.trod enc Tryz.prog W base sp held n 3 ((cs.drop 1).take (Tryz.prog.cellsOf 3)) = some y1 := (hf 1 _ rfl).trans hy1
  rw [Tryz.cells3] at g0 g1
  rw [Tryz.cells143] at hl
  exact list2 hl (int_cells g0 e0) (int_cells g1 e1)
set_option maxRecDepth 100000 in
theorem form_cells {x : DataW H × List MemPlace} {a0 a1 a2 a3 a4 a5 a6 a7 : Int} (h : DataW.trod enc Tryz.prog W base sp held fuel 145 cs = some x) (hx : x.1 = .agg [spanD a0 a1, spanD a2 a3, spanD a4 a5, spanD a6 a7]) : cs = [.int .i64 a0, .int .i64 a1, .int .i64 a2, .int .i64 a3, .int .i64 a4, .int .i64 a5, .int .i64 a6, .int .i64 a7] := by
  obtain ⟨xs, n, _, hx', hl, hlen, hf⟩ := DataW.trod_struct Tryz.underlying145 h
  subst hx'
  have hx : xs.map (·.1) = [spanD a0 a1, spanD a2 a3, spanD a4 a5, spanD a6 a7] := by injection hx
  obtain ⟨y0, hy0, e0⟩ := map_at hx (i := 0) rfl
  obtain ⟨y1, hy1, e1⟩ := map_at hx (i := 1) rfl
  obtain ⟨y2, hy2, e2⟩ := map_at hx (i := 2) rfl
  obtain ⟨y3, hy3, e3⟩ := map_at hx (i := 3) rfl
  have g0 : DataW.trod enc Tryz.prog W base sp held n 143 ((cs.drop 0).take (Tryz.prog.cellsOf 143)) = some y0 := (hf 0 _ rfl).trans hy0
  have g1 : DataW.trod enc Tryz.prog W base sp held n 143 ((cs.drop 2).take (Tryz.prog.cellsOf 143)) = some y1 := (hf 1 _ rfl).trans hy1
  have g2 : DataW.trod enc Tryz.prog W base sp held n 143 ((cs.drop 4).take (Tryz.prog.cellsOf 143)) = some y2 := (hf 2 _ rfl).trans hy2
  have g3 : DataW.trod enc Tryz.prog W base sp held n 143 ((cs.drop 6).take (Tryz.prog.cellsOf 143)) = some y3 := (hf 3 _ rfl).trans hy3
  rw [Tryz.cells143] at g0 g1 g2 g3
  rw [Tryz.cells145] at hl
  exact list8 hl (span_cells g0 e0) (span_cells g1 e1) (span_cells g2 e2) (span_cells g3 e3)
end

set_option maxRecDepth 100000 in
/-- What the rows' list gives. -/
theorem tab_of_laid {a b c d e f : String × DataW Unit} {r : List (String × DataW Unit)} {W : World} (h : laidMet Tryz.prog (a :: b :: c :: d :: e :: f :: ("flotilla/shelf.forms", Rows.laid_flotilla_shelf_forms) :: r) W) : Tab W := by
  obtain ⟨ps, ⟨g', t', cs, fuel, p, q, hg', ht', hvar, hd, _, _⟩, _⟩ := h.tail.tail.tail.tail.tail.tail
  obtain rfl := Option.some.inj (Tryz.gTab.symm.trans hg')
  obtain rfl := Option.some.inj (Tryz.gTabType.symm.trans ht')
  obtain ⟨xs, m, _, hx, hl, hlen, hf⟩ := DataW.trod_array Tryz.und146 hd
  rw [Tryz.cells146] at hl
  rw [Tryz.cells145] at hf
  have hxs : xs.map (·.1) = [.agg [spanD 0 0, spanD 0 0, spanD 0 0, spanD 0 0], .agg [spanD 1 16, spanD 0 0, spanD 0 0, spanD 0 0], .agg [spanD 1 16, spanD 0 0, spanD 0 0, spanD 0 0], .agg [spanD 1 16, spanD 0 64, spanD 0 0, spanD 0 0], .agg [spanD 1 16, spanD 0 0, spanD 0 1099511627776, spanD 0 0], .agg [spanD 1 16, spanD 1 16, spanD 0 0, spanD 0 0], .agg [spanD 1 16, spanD 0 0, spanD 0 1099511627776, spanD 1 8], .agg [spanD 1 16, spanD 0 0, spanD 0 0, spanD 0 0], .agg [spanD 0 0, spanD 0 0, spanD 0 0, spanD 0 0]] := by
    have := congrArg Prod.fst hx
    have e : (.agg (xs.map (·.1)) : DataW Unit) = Rows.laid_flotilla_shelf_forms := this.symm
    injection e
  obtain ⟨y0, hy0, e0⟩ := map_at hxs (i := 0) rfl
  have c0 : (cs.toList.drop (0 * 8)).take 8 = [Value.int .i64 0, .int .i64 0, .int .i64 0, .int .i64 0, .int .i64 0, .int .i64 0, .int .i64 0, .int .i64 0] := form_cells ((hf 0 (by omega)).trans hy0) e0
  obtain ⟨y1, hy1, e1⟩ := map_at hxs (i := 1) rfl
  have c1 : (cs.toList.drop (1 * 8)).take 8 = [Value.int .i64 1, .int .i64 16, .int .i64 0, .int .i64 0, .int .i64 0, .int .i64 0, .int .i64 0, .int .i64 0] := form_cells ((hf 1 (by omega)).trans hy1) e1
  obtain ⟨y2, hy2, e2⟩ := map_at hxs (i := 2) rfl
  have c2 : (cs.toList.drop (2 * 8)).take 8 = [Value.int .i64 1, .int .i64 16, .int .i64 0, .int .i64 0, .int .i64 0, .int .i64 0, .int .i64 0, .int .i64 0] := form_cells ((hf 2 (by omega)).trans hy2) e2
  obtain ⟨y3, hy3, e3⟩ := map_at hxs (i := 3) rfl
  have c3 : (cs.toList.drop (3 * 8)).take 8 = [Value.int .i64 1, .int .i64 16, .int .i64 0, .int .i64 64, .int .i64 0, .int .i64 0, .int .i64 0, .int .i64 0] := form_cells ((hf 3 (by omega)).trans hy3) e3
  obtain ⟨y4, hy4, e4⟩ := map_at hxs (i := 4) rfl
  have c4 : (cs.toList.drop (4 * 8)).take 8 = [Value.int .i64 1, .int .i64 16, .int .i64 0, .int .i64 0, .int .i64 0, .int .i64 1099511627776, .int .i64 0, .int .i64 0] := form_cells ((hf 4 (by omega)).trans hy4) e4
  obtain ⟨y5, hy5, e5⟩ := map_at hxs (i := 5) rfl
  have c5 : (cs.toList.drop (5 * 8)).take 8 = [Value.int .i64 1, .int .i64 16, .int .i64 1, .int .i64 16, .int .i64 0, .int .i64 0, .int .i64 0, .int .i64 0] := form_cells ((hf 5 (by omega)).trans hy5) e5
  obtain ⟨y6, hy6, e6⟩ := map_at hxs (i := 6) rfl
  have c6 : (cs.toList.drop (6 * 8)).take 8 = [Value.int .i64 1, .int .i64 16, .int .i64 0, .int .i64 0, .int .i64 0, .int .i64 1099511627776, .int .i64 1, .int .i64 8] := form_cells ((hf 6 (by omega)).trans hy6) e6
  obtain ⟨y7, hy7, e7⟩ := map_at hxs (i := 7) rfl
  have c7 : (cs.toList.drop (7 * 8)).take 8 = [Value.int .i64 1, .int .i64 16, .int .i64 0, .int .i64 0, .int .i64 0, .int .i64 0, .int .i64 0, .int .i64 0] := form_cells ((hf 7 (by omega)).trans hy7) e7
  obtain ⟨y8, hy8, e8⟩ := map_at hxs (i := 8) rfl
  have c8 : (cs.toList.drop (8 * 8)).take 8 = [Value.int .i64 0, .int .i64 0, .int .i64 0, .int .i64 0, .int .i64 0, .int .i64 0, .int .i64 0, .int .i64 0] := form_cells ((hf 8 (by omega)).trans hy8) e8
  have hall : ∀ i, i < 72 → cs.toList[i]? = some (.int .i64 (formN.getD i 0)) := by
    intro i hi
    have hc : ∀ r, r < 9 → (cs.toList.drop (r * 8)).take 8 = ((formN.drop (r * 8)).take 8).map (Value.int .i64) := by
      intro r hr
      obtain rfl | rfl | rfl | rfl | rfl | rfl | rfl | rfl | rfl : r = 0 ∨ r = 1 ∨ r = 2 ∨ r = 3 ∨ r = 4 ∨ r = 5 ∨ r = 6 ∨ r = 7 ∨ r = 8 := by omega
      · exact c0
      · exact c1
      · exact c2
      · exact c3
      · exact c4
      · exact c5
      · exact c6
      · exact c7
      · exact c8
    have h1 := congrArg (fun l => l[i % 8]?) (hc (i / 8) (by omega))
    simp only [List.getElem?_take, List.getElem?_drop, List.getElem?_map] at h1
    rw [if_pos (by omega), if_pos (by omega)] at h1
    have e : i / 8 * 8 + i % 8 = i := by omega
    rw [e] at h1
    rw [h1, List.getD_eq_getElem?_getD, List.getElem?_eq_getElem (by simpa [formN] using hi)]
    rfl
  have hcell : ∀ i, i < 72 → W.cell? ⟨2, i, none⟩ = some (.int .i64 (formN.getD i 0)) := by
    intro i hi
    have := World.var?_cell Tryz.gTab hvar i
    rw [this]
    simpa using hall i hi
  exact ⟨World.block_lt_of_cell? W _ (hcell 0 (by omega)), hcell⟩

theorem str_cells {H : Type} {enc : TypeId × Value → H} {W : World} {base : Nat} {sp : Nat → Bool} {held : Bool} {n : Nat} {cs : List Value} {x : DataW H × List MemPlace} {l : List UInt8} (h : DataW.trod enc Tryz.prog W base sp held n 9 cs = some x) (hx : x.1 = .lit (.string l)) : cs = [.string ⟨l.toArray⟩] := by
  obtain ⟨s, e, r, _⟩ := DataW.trod_string Tryz.underlying9 h
  subst r
  simp only [DataW.lit.injEq, Lit.string.injEq] at hx
  subst hx
  simpa using e
theorem Tryz.gWf : Tryz.prog.globalNamed "flotilla/words.forms" = some 1 := by kernel_rfl
theorem Tryz.gWfType : (Tryz.prog.globals[1]?).map (·.type) = some 126 := by kernel_rfl
theorem Tryz.cells126 : Tryz.prog.cellsOf 126 = 18 := by kernel_rfl
theorem Tryz.cells125 : Tryz.prog.cellsOf 125 = 2 := by kernel_rfl
theorem Tryz.cells41 : Tryz.prog.cellsOf 41 = 5 := by kernel_rfl
theorem Tryz.bytes9 : Tryz.prog.bytesOf 9 = 16 := by kernel_rfl
theorem Tryz.und126 : Tryz.prog.underlying 126 = some (.array 9 125) := by kernel_rfl
theorem nth {α : Type} {l : List α} {n i : Nat} (hl : l.length = n) (hi : i < n) : ∃ y, l[i]? = some y := ⟨_, List.getElem?_eq_getElem (by omega)⟩
theorem i64_wf {n : Int} (h : (Lit.int .i64 n).wf = true) : -9223372036854775808 ≤ n ∧ n < 9223372036854775808 := by
  have : -9223372036854775808 ≤ n ∧ n ≤ 9223372036854775807 := by simpa [Lit.wf, IntKind.min, IntKind.max, IntKind.signed, IntKind.bits] using h
  omega
theorem list5 {l : List Value} {a b c d e : Value} (hl : l.length = 5) (h0 : (l.drop 0).take 1 = [a]) (h1 : (l.drop 1).take 1 = [b]) (h2 : (l.drop 2).take 1 = [c]) (h3 : (l.drop 3).take 1 = [d]) (h4 : (l.drop 4).take 1 = [e]) : l = [a, b, c, d, e] := by
  match l, hl with
  | [x0, x1, x2, x3, x4], _ => simp at h0 h1 h2 h3 h4; simp [h0, h1, h2, h3, h4]
section
variable {H : Type} {enc : TypeId × Value → H} {W : World} {base : Nat} {sp : Nat → Bool} {held : Bool} {fuel : Nat} {cs : List Value} {x : DataW H × List MemPlace}
set_option maxRecDepth 100000 in
theorem pair_cells {a b : List UInt8} (h : DataW.trod enc Tryz.prog W base sp held fuel 125 cs = some x) (hx : x.1 = .agg [.lit (.string a), .lit (.string b)]) : cs = [.string ⟨a.toArray⟩, .string ⟨b.toArray⟩] := by
  obtain ⟨xs, n, _, hx', hl, hlen, hf⟩ := DataW.trod_struct Tryz.underlying125 h
  subst hx'
  have hx : xs.map (·.1) = [.lit (.string a), .lit (.string b)] := by injection hx
  obtain ⟨y0, hy0, e0⟩ := map_at hx (i := 0) rfl
  obtain ⟨y1, hy1, e1⟩ := map_at hx (i := 1) rfl
  have g0 : DataW.trod enc Tryz.prog W base sp held n 9 ((cs.drop 0).take (Tryz.prog.cellsOf 9)) = some y0 := (hf 0 _ rfl).trans hy0
  have g1 : DataW.trod enc Tryz.prog W base sp held n 9 ((cs.drop 1).take (Tryz.prog.cellsOf 9)) = some y1 := (hf 1 _ rfl).trans hy1
  rw [Tryz.cells9] at g0 g1
  rw [Tryz.cells125] at hl
  exact list2 hl (str_cells g0 e0) (str_cells g1 e1)
set_option maxRecDepth 100000 in
/-- An op's cells. -/
theorem op_cells (h : DataW.trod enc Tryz.prog W base sp held fuel 41 cs = some x) : ∃ k nm tx n m, cs = [.int .i64 k, .string nm, .string tx, .int .i64 n, .int .i64 m] := by
  obtain ⟨xs, f, _, rfl, hl, hlen, hf⟩ := DataW.trod_struct Tryz.underlying41 h
  have hlen : xs.length = 5 := hlen
  obtain ⟨y0, hy0⟩ := nth hlen (i := 0) (by omega)
  obtain ⟨y1, hy1⟩ := nth hlen (i := 1) (by omega)
  obtain ⟨y2, hy2⟩ := nth hlen (i := 2) (by omega)
  obtain ⟨y3, hy3⟩ := nth hlen (i := 3) (by omega)
  obtain ⟨y4, hy4⟩ := nth hlen (i := 4) (by omega)
  have g0 : DataW.trod enc Tryz.prog W base sp held f 3 ((cs.drop 0).take (Tryz.prog.cellsOf 3)) = some y0 := (hf 0 _ rfl).trans hy0
  have g1 : DataW.trod enc Tryz.prog W base sp held f 9 ((cs.drop 1).take (Tryz.prog.cellsOf 9)) = some y1 := (hf 1 _ rfl).trans hy1
  have g2 : DataW.trod enc Tryz.prog W base sp held f 9 ((cs.drop 2).take (Tryz.prog.cellsOf 9)) = some y2 := (hf 2 _ rfl).trans hy2
  have g3 : DataW.trod enc Tryz.prog W base sp held f 3 ((cs.drop 3).take (Tryz.prog.cellsOf 3)) = some y3 := (hf 3 _ rfl).trans hy3
  have g4 : DataW.trod enc Tryz.prog W base sp held f 3 ((cs.drop 4).take (Tryz.prog.cellsOf 3)) = some y4 := (hf 4 _ rfl).trans hy4
  rw [Tryz.cells3] at g0 g3 g4
  rw [Tryz.cells9] at g1 g2
  rw [Tryz.cells41] at hl
  obtain ⟨k, e0, _, _⟩ := DataW.trod_int Tryz.underlying3 g0
  obtain ⟨nm, e1, _, _⟩ := DataW.trod_string Tryz.underlying9 g1
  obtain ⟨tx, e2, _, _⟩ := DataW.trod_string Tryz.underlying9 g2
  obtain ⟨n, e3, _, _⟩ := DataW.trod_int Tryz.underlying3 g3
  obtain ⟨m, e4, _, _⟩ := DataW.trod_int Tryz.underlying3 g4
  exact ⟨k, nm, tx, n, m, list5 hl e0 e1 e2 e3 e4⟩
set_option maxRecDepth 100000 in
/-- An op that came in. -/
theorem open_op {v : Value} {d : DataW H} {p : List MemPlace} (h : DataW.Trod enc Tryz.prog W 0 (fun _ => true) true 41 v d p) (hv : ∃ cs, v = .agg cs ∧ cs.size = Tryz.prog.cellsOf 41) : ∃ k, ∃ (nm tx : List UInt8), ∃ n m, v = opV k ⟨nm.toArray⟩ ⟨tx.toArray⟩ n m := by
  obtain ⟨fuel, hf⟩ := h
  obtain ⟨cs, rfl, _⟩ := hv
  obtain ⟨k, nm, tx, n, m, e⟩ := op_cells hf
  refine ⟨k, nm.data.toList, tx.data.toList, n, m, ?_⟩
  obtain ⟨l⟩ := cs
  have e : l = _ := e
  rw [e]
set_option maxRecDepth 100000 in
theorem weights_all (Sx : Nat → ByteArray) (l : List Nat) {i : Nat} (hi : i ∈ l) : (Sx i).data.toList.length ∈ DataW.weightsAll Tryz.prog 9 (l.map fun i => (.lit (.string (Sx i).data.toList) : DataW H)) := by
  induction l with
  | nil => simp at hi
  | cons a r ih =>
    simp only [List.map_cons, DataW.weightsAll, DataW.weights, List.mem_append, List.mem_singleton]
    rcases List.mem_cons.1 hi with rfl | h
    · exact Or.inl rfl
    · exact Or.inr (ih h)
set_option maxRecDepth 100000 in
/-- Texts that came in, with how much they hold. -/
theorem texts_sized (h : DataW.trod enc Tryz.prog W base sp held fuel 46 cs = some x) (hw : ∀ n ∈ x.1.weights Tryz.prog 46, n ≤ reachBytes) : ∃ s l, cs = [s] ∧ Rt W s l ∧ l.length * 16 ≤ reachBytes ∧ ∀ y ∈ l, y.length ≤ reachBytes := by
  rcases open_strs Tryz.underlying46 Tryz.underlying9 Tryz.cells9 h with ⟨rfl, rfl⟩ | ⟨a, len, cap, m, Sx, rfl, _, hl, hm, hmm, rfl, hc⟩
  · exact ⟨_, [], rfl, ⟨none, 0, rfl, by simp, Or.inl rfl⟩, by simp, by simp⟩
  · have hlm : len ≤ m := by rw [hmm]; split <;> omega
    simp only [DataW.weights, Tryz.underlying46, Tryz.bytes9, List.length_map, List.length_range] at hw
    refine ⟨_, (List.range len).map fun i => (Sx i).data.toList, rfl, ⟨some a, cap, by simp, by simpa using hl, ?_⟩, ?_, fun y hy => ?_⟩
    · by_cases h0 : len = 0
      · left; subst h0; rfl
      · right
        have hc0 := (hc 0 (by omega)).1
        have hsp : a.spot = none := by
          have := World.cell?_spot hc0
          simpa [Addr.add] using this
        obtain ⟨b, off, sp'⟩ := a
        simp only at hsp
        subst hsp
        refine ⟨b, off, rfl, ?_, fun j hj => ?_⟩
        · have := World.block_lt_of_cell? W _ hc0
          simpa [Addr.add] using this
        · have hj' : j < len := by simpa using hj
          have h1 := (hc j (by omega)).1
          rw [Addr.add_lit] at h1
          rw [h1]
          simp
    · have := hw _ (List.mem_cons_self ..)
      rw [List.length_map, List.length_range]
      omega
    · obtain ⟨i, hi, rfl⟩ := List.mem_map.1 hy
      exact hw _ (List.mem_cons_of_mem _ (List.mem_append_left _ (weights_all Sx _ hi)))
set_option maxRecDepth 100000 in
theorem open_ws {v : Value} {d : DataW H} {p : List MemPlace} (h : DataW.Trod enc Tryz.prog W 0 (fun _ => true) true 46 v d p) (hv : ∃ a l c, v = .slice a l c) (hw : ∀ n ∈ d.weights Tryz.prog 46, n ≤ reachBytes) : ∃ ws, Rt W v ws ∧ ws.length * 16 ≤ reachBytes ∧ ∀ y ∈ ws, y.length ≤ reachBytes := by
  obtain ⟨fuel, hf⟩ := h
  obtain ⟨a0, l0, c0, rfl⟩ := hv
  obtain ⟨s, l, e, hr, hz⟩ := texts_sized hf hw
  simp [Value.cells] at e
  subst e
  exact ⟨l, hr, hz⟩
end
set_option maxRecDepth 100000 in
theorem wf_of_laid {a b c d e f g : String × DataW Unit} {r : List (String × DataW Unit)} {W : World} (h : laidMet Tryz.prog (a :: b :: c :: d :: e :: f :: g :: ("flotilla/words.forms", Rows.laid_flotilla_words_forms) :: r) W) : Wf W := by
  obtain ⟨ps, ⟨g', t', cs, fuel, p, q, hg', ht', hvar, hd, _, _⟩, _⟩ := h.tail.tail.tail.tail.tail.tail.tail
  obtain rfl := Option.some.inj (Tryz.gWf.symm.trans hg')
  obtain rfl := Option.some.inj (Tryz.gWfType.symm.trans ht')
  obtain ⟨xs, m, _, hx, hl, hlen, hf⟩ := DataW.trod_array Tryz.und126 hd
  rw [Tryz.cells126] at hl
  rw [Tryz.cells125] at hf
  have hxs : xs.map (·.1) = wfN.map fun q => (.agg [.lit (.string q.1), .lit (.string q.2)] : DataW Unit) := by
    have := congrArg Prod.fst hx
    have e : (.agg (xs.map (·.1)) : DataW Unit) = Rows.laid_flotilla_words_forms := this.symm
    injection e
  have hcell : ∀ i, i < 9 → W.cell? ⟨1, i * 2, none⟩ = some (.string ⟨(nmN i).toArray⟩) ∧ W.cell? ⟨1, i * 2 + 1, none⟩ = some (.string ⟨(ltN i).toArray⟩) := by
    intro i hi
    have hd : (wfN.map fun q => (.agg [.lit (.string q.1), .lit (.string q.2)] : DataW Unit))[i]? = some (.agg [.lit (.string (nmN i)), .lit (.string (ltN i))]) := by
      have hlen : wfN.length = 9 := rfl
      unfold nmN ltN
      rw [List.getElem?_map, List.getD_eq_getElem?_getD, List.getElem?_eq_getElem (by omega)]
      rfl
    obtain ⟨y, hy, e⟩ := map_at hxs hd
    have c := pair_cells ((hf i hi).trans hy) e
    have c0 := congrArg (fun l => l[0]?) c
    have c1 := congrArg (fun l => l[1]?) c
    simp only [List.getElem?_take, List.getElem?_drop] at c0 c1
    rw [if_pos (by omega)] at c0 c1
    refine ⟨?_, ?_⟩
    · rw [World.var?_cell Tryz.gWf hvar (i * 2)]
      simpa using c0
    · rw [World.var?_cell Tryz.gWf hvar (i * 2 + 1)]
      simpa using c1
  exact ⟨World.block_lt_of_cell? W _ (hcell 0 (by omega)).1, hcell⟩
theorem Tryz.gSf : Tryz.prog.globalNamed "flotilla/script.forms" = some 0 := by kernel_rfl
theorem Tryz.gSfType : (Tryz.prog.globals[0]?).map (·.type) = some 99 := by kernel_rfl
theorem Tryz.cells99 : Tryz.prog.cellsOf 99 = 28 := by kernel_rfl
theorem Tryz.cells98 : Tryz.prog.cellsOf 98 = 2 := by kernel_rfl
theorem Tryz.und99 : Tryz.prog.underlying 99 = some (.array 14 98) := by kernel_rfl
section
variable {H : Type} {enc : TypeId × Value → H} {W : World} {base : Nat} {sp : Nat → Bool} {held : Bool} {fuel : Nat} {cs : List Value} {x : DataW H × List MemPlace}
set_option maxRecDepth 100000 in
theorem pair_cellsS {a b : List UInt8} (h : DataW.trod enc Tryz.prog W base sp held fuel 98 cs = some x) (hx : x.1 = .agg [.lit (.string a), .lit (.string b)]) : cs = [.string ⟨a.toArray⟩, .string ⟨b.toArray⟩] := by
  obtain ⟨xs, n, _, hx', hl, hlen, hf⟩ := DataW.trod_struct Tryz.underlying98 h
  subst hx'
  have hx : xs.map (·.1) = [.lit (.string a), .lit (.string b)] := by injection hx
  obtain ⟨y0, hy0, e0⟩ := map_at hx (i := 0) rfl
  obtain ⟨y1, hy1, e1⟩ := map_at hx (i := 1) rfl
  have g0 : DataW.trod enc Tryz.prog W base sp held n 9 ((cs.drop 0).take (Tryz.prog.cellsOf 9)) = some y0 := (hf 0 _ rfl).trans hy0
  have g1 : DataW.trod enc Tryz.prog W base sp held n 9 ((cs.drop 1).take (Tryz.prog.cellsOf 9)) = some y1 := (hf 1 _ rfl).trans hy1
  rw [Tryz.cells9] at g0 g1
  rw [Tryz.cells98] at hl
  exact list2 hl (str_cells g0 e0) (str_cells g1 e1)
end
set_option maxRecDepth 100000 in
theorem sf_of_laid {a b c d e f g k : String × DataW Unit} {r : List (String × DataW Unit)} {W : World} (h : laidMet Tryz.prog (a :: b :: c :: d :: e :: f :: g :: k :: ("flotilla/script.forms", Rows.laid_flotilla_script_forms) :: r) W) : Sf W := by
  obtain ⟨ps, ⟨g', t', cs, fuel, p, q, hg', ht', hvar, hd, _, _⟩, _⟩ := h.tail.tail.tail.tail.tail.tail.tail.tail
  obtain rfl := Option.some.inj (Tryz.gSf.symm.trans hg')
  obtain rfl := Option.some.inj (Tryz.gSfType.symm.trans ht')
  obtain ⟨xs, m, _, hx, hl, hlen, hf⟩ := DataW.trod_array Tryz.und99 hd
  rw [Tryz.cells99] at hl
  rw [Tryz.cells98] at hf
  have hxs : xs.map (·.1) = sfN.map fun q => (.agg [.lit (.string q.1), .lit (.string q.2)] : DataW Unit) := by
    have := congrArg Prod.fst hx
    have e : (.agg (xs.map (·.1)) : DataW Unit) = Rows.laid_flotilla_script_forms := this.symm
    injection e
  have hcell : ∀ i, i < 14 → W.cell? ⟨0, i * 2, none⟩ = some (.string ⟨(snN i).toArray⟩) ∧ W.cell? ⟨0, i * 2 + 1, none⟩ = some (.string ⟨(slN i).toArray⟩) := by
    intro i hi
    have hd : (sfN.map fun q => (.agg [.lit (.string q.1), .lit (.string q.2)] : DataW Unit))[i]? = some (.agg [.lit (.string (snN i)), .lit (.string (slN i))]) := by
      have hlen : sfN.length = 14 := rfl
      unfold snN slN
      rw [List.getElem?_map, List.getD_eq_getElem?_getD, List.getElem?_eq_getElem (by omega)]
      rfl
    obtain ⟨y, hy, e⟩ := map_at hxs hd
    have c := pair_cellsS ((hf i hi).trans hy) e
    have c0 := congrArg (fun l => l[0]?) c
    have c1 := congrArg (fun l => l[1]?) c
    simp only [List.getElem?_take, List.getElem?_drop] at c0 c1
    rw [if_pos (by omega)] at c0 c1
    refine ⟨?_, ?_⟩
    · rw [World.var?_cell Tryz.gSf hvar (i * 2)]
      simpa using c0
    · rw [World.var?_cell Tryz.gSf hvar (i * 2 + 1)]
      simpa using c1
  exact ⟨World.block_lt_of_cell? W _ (hcell 0 (by omega)).1, hcell⟩
theorem en_of_laid {W : World} (h : laidMet Tryz.prog Rows.scriptNamesRow.laid W) (hs : W.ShapedOpen Tryz.prog) : En W := by
  obtain ⟨m, hm⟩ := Tryz.laysM146.s1_3 W hs
  exact ⟨vars_of_laid h, tab_of_laid h, wf_of_laid h, sf_of_laid h, ⟨World.block_lt_of_cell? W _ hm, m, hm⟩⟩
end Go.Proofs.YtblojlaifnmimaaGreatDoor

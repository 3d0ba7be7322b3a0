import Derived.Test.YteloaggebkbeeaaDoorJ6
import Derived.Test.YteloaggebkbeeaaDoorCards
import Derived.Test.YteloaggebkbeeaaDoorTie
import Derived.ProofKit
import Derived.OpenShut
import Derived.SizedLaws
import Derived.Deep.DeepHandedRow
import Derived.Deep.Slices
import Derived.Lib.LaidTab
import Derived.Lib.SmallJoins
import Derived.Test.YteloaggebkbeeaaDoorPx18
import Derived.Deep.Strs
namespace Go.Proofs.YteloaggebkbeeaaDoor
open Go.ChangeShapes Go.WideShapes Go.ChangeAt Go.RowKit Go.Deep Go.Joins
set_option linter.unusedVariables false

theorem Tryd.own : ownKnob Tryd.prog.godebug = none := by kernel_rfl
theorem Tryd.laidOut : laidOutB Tryd.prog = true := by kernel_rfl
theorem Tryd.gTab : Tryd.prog.globalNamed "flotilla/shelf.forms" = some 0 := by kernel_rfl
theorem Tryd.gTabType : (Tryd.prog.globals[0]?).map (·.type) = some 89 := by kernel_rfl
theorem Tryd.cells89 : Tryd.prog.cellsOf 89 = 72 := by kernel_rfl
theorem Tryd.cells88 : Tryd.prog.cellsOf 88 = 8 := by kernel_rfl
theorem Tryd.cells86 : Tryd.prog.cellsOf 86 = 2 := by kernel_rfl
theorem Tryd.cells3 : Tryd.prog.cellsOf 3 = 1 := by kernel_rfl
theorem Tryd.cells9 : Tryd.prog.cellsOf 9 = 1 := by kernel_rfl
theorem Tryd.cells33 : Tryd.prog.cellsOf 33 = 1 := by kernel_rfl
theorem Tryd.cells32 : Tryd.prog.cellsOf 32 = 5 := by kernel_rfl
theorem Tryd.cells35 : Tryd.prog.cellsOf 35 = 3 := by kernel_rfl
theorem Tryd.cells5 : Tryd.prog.cellsOf 5 = 1 := by kernel_rfl
theorem Tryd.bytes5 : Tryd.prog.bytesOf 5 = 1 := by kernel_rfl
theorem Tryd.bytes9 : Tryd.prog.bytesOf 9 = 16 := by kernel_rfl
theorem Tryd.gFld : Tryd.prog.globalNamed "flotilla/mail.fields" = some 1 := by kernel_rfl
theorem Tryd.gFldType : (Tryd.prog.globals[1]?).map (·.type) = some 103 := by kernel_rfl
theorem Tryd.cells103 : Tryd.prog.cellsOf 103 = 16 := by kernel_rfl
theorem Tryd.und103 : Tryd.prog.underlying 103 = some (.array 16 9) := by kernel_rfl
theorem Tryd.und89 : Tryd.prog.underlying 89 = some (.array 9 88) := by kernel_rfl

theorem map_at {α β : Type} {f : α → β} {xs : List α} {ys : List β} (h : xs.map f = ys) {i : Nat} {d : β} (hd : ys[i]? = some d) : ∃ y, xs[i]? = some y ∧ f y = d := by
  rw [← h, List.getElem?_map, Option.map_eq_some_iff] at hd
  exact hd

section
variable {H : Type} {enc : TypeId × Value → H} {W : World} {base : Nat} {sp : Nat → Bool} {held : Bool} {fuel : Nat} {cs : List Value} {p : List MemPlace}
def spanD (a b : Int) : DataW H := .agg [.lit (.int .i64 a), .lit (.int .i64 b)]
theorem int_cells {n : Nat} {x : DataW H × List MemPlace} {a : Int} (h : DataW.trod enc Tryd.prog W base sp held n 3 cs = some x) (hx : x.1 = .lit (.int .i64 a)) : cs = [.int .i64 a] := by
  obtain ⟨z, e, r, _⟩ := DataW.trod_int Tryd.underlying3 h
  subst r
  simp only [DataW.lit.injEq, Lit.int.injEq, true_and] at hx
  subst hx
  exact e
theorem list2 {l : List Value} {a b : Value} (hl : l.length = 2) (h0 : (l.drop 0).take 1 = [a]) (h1 : (l.drop 1).take 1 = [b]) : l = [a, b] := by
  match l, hl with
  | [x, y], _ => simp at h0 h1; simp [h0, h1]
theorem list8 {l : List Value} {a b c d e f g h : Value} (hl : l.length = 8) (h0 : (l.drop 0).take 2 = [a, b]) (h1 : (l.drop 2).take 2 = [c, d]) (h2 : (l.drop 4).take 2 = [e, f]) (h3 : (l.drop 6).take 2 = [g, h]) : l = [a, b, c, d, e, f, g, h] := by
  match l, hl with
  | [x0, x1, x2, x3, x4, x5, x6, x7], _ => simp at h0 h1 h2 h3; simp [h0, h1, h2, h3]
set_option maxRecDepth 100000 in
theorem span_cells {x : DataW H × List MemPlace} {a b : Int} (h : DataW.trod enc Tryd.prog W base sp held fuel 86 cs = some x) (hx : x.1 = spanD a b) : cs = [.int .i64 a, .int .i64 b] := by
  obtain ⟨xs, n, _, hx', hl, hlen, hf⟩ := DataW.trod_struct Tryd.underlying86 h
  subst hx'
  have hx : xs.map (·.1) = [.lit (.int .i64 a), .lit (.int .i64 b)] := by simp only [spanD] at hx; injection hx
  obtain ⟨y0, hy0, e0⟩ := map_at hx (i := 0) rfl
  obtain ⟨y1, hy1, e1⟩ := map_at hx (i := 1) rfl
  have g0 : DataW.trod enc Tryd.prog W base sp held n 3 ((cs.drop 0).take (Tryd.prog.cellsOf 3)) = some y0 := (hf 0 _ rfl).trans hy0
  have g1 : DataW.trod enc Tryd.prog W base sp held n 3 ((cs.drop 1).take (Tryd.prog.cellsOf 3)) = some y1 := (hf 1 _ rfl).trans hy1
  rw [Tryd.cells3] at g0 g1
  rw [Tryd.cells86] at hl
  exact list2 hl (int_cells g0 e0) (int_cells g1 e1)
set_option maxRecDepth 100000 in
theorem form_cells {x : DataW H × List MemPlace} {a0 a1 a2 a3 a4 a5 a6 a7 : Int} (h : DataW.trod enc Tryd.prog W base sp held fuel 88 cs = some x) (hx : x.1 = .agg [spanD a0 a1, spanD a2 a3, spanD a4 a5, spanD a6 a7]) : cs = [.int .i64 a0, .int .i64 a1, .int .i64 a2, .int .i64 a3, .int .i64 a4, .int .i64 a5, .int .i64 a6, .int .i64 a7] := by
  obtain ⟨xs, n, _, hx', hl, hlen, hf⟩ := DataW.trod_struct Tryd.underlying88 h
  subst hx'
  have hx : xs.map (·.1) = [spanD a0 a1, spanD a2 a3, spanD a4 a5, spanD a6 a7] := by injection hx
  obtain ⟨y0, hy0, e0⟩ := map_at hx (i := 0) rfl
  obtain ⟨y1, hy1, e1⟩ := map_at hx (i := 1) rfl
  obtain ⟨y2, hy2, e2⟩ := map_at hx (i := 2) rfl
  obtain ⟨y3, hy3, e3⟩ := map_at hx (i := 3) rfl
  have g0 : DataW.trod enc Tryd.prog W base sp held n 86 ((cs.drop 0).take (Tryd.prog.cellsOf 86)) = some y0 := (hf 0 _ rfl).trans hy0
  have g1 : DataW.trod enc Tryd.prog W base sp held n 86 ((cs.drop 2).take (Tryd.prog.cellsOf 86)) = some y1 := (hf 1 _ rfl).trans hy1
  have g2 : DataW.trod enc Tryd.prog W base sp held n 86 ((cs.drop 4).take (Tryd.prog.cellsOf 86)) = some y2 := (hf 2 _ rfl).trans hy2
  have g3 : DataW.trod enc Tryd.prog W base sp held n 86 ((cs.drop 6).take (Tryd.prog.cellsOf 86)) = some y3 := (hf 3 _ rfl).trans hy3
  rw [Tryd.cells86] at g0 g1 g2 g3
  rw [Tryd.cells88] at hl
  exact list8 hl (span_cells g0 e0) (span_cells g1 e1) (span_cells g2 e2) (span_cells g3 e3)
end

set_option maxRecDepth 100000 in
/-- What the rows' list gives. -/
theorem tab_of_laid {W : World} (h : laidMetH Tryd.prog [("flotilla/shelf.forms", Rows.laid_flotilla_shelf_forms), ("flotilla/mail.fields", Rows.laid_flotilla_mail_fields)] W) : Tab W := by
  have h : laidMet Tryd.prog [("flotilla/shelf.forms", Rows.laid_flotilla_shelf_forms), ("flotilla/mail.fields", Rows.laid_flotilla_mail_fields)] W := h
  obtain ⟨ps, ⟨g', t', cs, fuel, p, q, hg', ht', hvar, hd, _, _⟩, _⟩ := h
  obtain rfl := Option.some.inj (Tryd.gTab.symm.trans hg')
  obtain rfl := Option.some.inj (Tryd.gTabType.symm.trans ht')
  obtain ⟨xs, m, _, hx, hl, hlen, hf⟩ := DataW.trod_array Tryd.und89 hd
  rw [Tryd.cells89] at hl
  rw [Tryd.cells88] at hf
  have hxs : xs.map (·.1) = [.agg [spanD 0 0, spanD 0 0, spanD 0 0, spanD 0 0], .agg [spanD 1 16, spanD 0 0, spanD 0 0, spanD 0 0], .agg [spanD 1 16, spanD 0 0, spanD 0 0, spanD 0 0], .agg [spanD 1 16, spanD 0 64, spanD 0 0, spanD 0 0], .agg [spanD 1 16, spanD 0 0, spanD 0 1099511627776, spanD 0 0], .agg [spanD 1 16, spanD 1 16, spanD 0 0, spanD 0 0], .agg [spanD 1 16, spanD 0 0, spanD 0 1099511627776, spanD 1 8], .agg [spanD 1 16, spanD 0 0, spanD 0 0, spanD 0 0], .agg [spanD 0 0, spanD 0 0, spanD 0 0, spanD 0 0]] := by
    have := congrArg Prod.fst hx
    have e : (.agg (xs.map (·.1)) : DataW Unit) = Rows.laid_flotilla_shelf_forms := this.symm
    injection e
  obtain ⟨y0, hy0, e0⟩ := map_at hxs (i := 0) rfl
  have c0 : (cs.toList.drop (0 * 8)).take 8 = [Value.int .i64 0, .int .i64 0, .int .i64 0, .int .i64 0, .int .i64 0, .int .i64 0, .int .i64 0, .int .i64 0] := form_cells ((hf 0 (by omega)).trans hy0) e0
  obtain ⟨y1, hy1, e1⟩ := map_at hxs (i := 1) rfl
  have c1 : (cs.toList.drop (1 * 8)).take 8 = [Value.int .i64 1, .int .i64 16, .int .i64 0, .int .i64 0, .int .i64 0, .int .i64 0, .int .i64 0, .int .i64 0] := form_cells ((hf 1 (by omega)).trans hy1) e1
  obtain ⟨y2, hy2, e2⟩ := map_at hxs (i := 2) rfl
  have c2 : (cs.toList.drop (2 * 8)).take 8 = [Value.int .i64 1, .int .i64 16, .int .i64 0, .int .i64 0, .int .i64 0, .int .i64 0, .int .i64 0, .int .i64 0] := form_cells ((hf 2 (by omega)).trans hy2) e2
  obtain ⟨y3, hy3, e3⟩ := map_at hxs (i := 3) rfl
  have c3 : (cs.toList.drop (3 * 8)).take 8 = [Value.int .i64 1, .int .i64 16, .int .i64 0, .int .i64 64, .int .i64 0, .int .i64 0, .int .i64 0, .int .i64 0] := form_cells ((hf 3 (by omega)).trans hy3) e3
  obtain ⟨y4, hy4, e4⟩ := map_at hxs (i := 4) rfl
  have c4 : (cs.toList.drop (4 * 8)).take 8 = [Value.int .i64 1, .int .i64 16, .int .i64 0, .int .i64 0, .int .i64 0, .int .i64 1099511627776, .int .i64 0, .int .i64 0] := form_cells ((hf 4 (by omega)).trans hy4) e4
  obtain ⟨y5, hy5, e5⟩ := map_at hxs (i := 5) rfl
  have c5 : (cs.toList.drop (5 * 8)).take 8 = [Value.int .i64 1, .int .i64 16, .int .i64 1, .int .i64 16, .int .i64 0, .int .i64 0, .int .i64 0, .int .i64 0] := form_cells ((hf 5 (by omega)).trans hy5) e5
  obtain ⟨y6, hy6, e6⟩ := map_at hxs (i := 6) rfl
  have c6 : (cs.toList.drop (6 * 8)).take 8 = [Value.int .i64 1, .int .i64 16, .int .i64 0, .int .i64 0, .int .i64 0, .int .i64 1099511627776, .int .i64 1, .int .i64 8] := form_cells ((hf 6 (by omega)).trans hy6) e6
  obtain ⟨y7, hy7, e7⟩ := map_at hxs (i := 7) rfl
  have c7 : (cs.toList.drop (7 * 8)).take 8 = [Value.int .i64 1, .int .i64 16, .int .i64 0, .int .i64 0, .int .i64 0, .int .i64 0, .int .i64 0, .int .i64 0] := form_cells ((hf 7 (by omega)).trans hy7) e7
  obtain ⟨y8, hy8, e8⟩ := map_at hxs (i := 8) rfl
  have c8 : (cs.toList.drop (8 * 8)).take 8 = [Value.int .i64 0, .int .i64 0, .int .i64 0, .int .i64 0, .int .i64 0, .int .i64 0, .int .i64 0, .int .i64 0] := form_cells ((hf 8 (by omega)).trans hy8) e8
  have hall : ∀ i, i < 72 → cs.toList[i]? = some (.int .i64 (formN.getD i 0)) := by
    intro i hi
    have hc : ∀ r, r < 9 → (cs.toList.drop (r * 8)).take 8 = ((formN.drop (r * 8)).take 8).map (Value.int .i64) := by
      intro r hr
      obtain rfl | rfl | rfl | rfl | rfl | rfl | rfl | rfl | rfl : r = 0 ∨ r = 1 ∨ r = 2 ∨ r = 3 ∨ r = 4 ∨ r = 5 ∨ r = 6 ∨ r = 7 ∨ r = 8 := by omega
      · exact c0
      · exact c1
      · exact c2
      · exact c3
      · exact c4
      · exact c5
      · exact c6
      · exact c7
      · exact c8
    have h1 := congrArg (fun l => l[i % 8]?) (hc (i / 8) (by omega))
    simp only [List.getElem?_take, List.getElem?_drop, List.getElem?_map] at h1
    rw [if_pos (by omega), if_pos (by omega)] at h1
    have e : i / 8 * 8 + i % 8 = i := by omega
    rw [e] at h1
    rw [h1, List.getD_eq_getElem?_getD, List.getElem?_eq_getElem (by simpa [formN] using hi)]
    rfl
  have hcell : ∀ i, i < 72 → W.cell? ⟨0, i, none⟩ = some (.int .i64 (formN.getD i 0)) := by
    intro i hi
    have := World.var?_cell Tryd.gTab hvar i
    rw [this]
    simpa using hall i hi
  exact ⟨World.block_lt_of_cell? W _ (hcell 0 (by omega)), hcell⟩

theorem str_cells {H : Type} {enc : TypeId × Value → H} {W : World} {base : Nat} {sp : Nat → Bool} {held : Bool} {n : Nat} {cs : List Value} {x : DataW H × List MemPlace} {l : List UInt8} (h : DataW.trod enc Tryd.prog W base sp held n 9 cs = some x) (hx : x.1 = .lit (.string l)) : cs = [.string ⟨l.toArray⟩] := by
  obtain ⟨s, e, r, _⟩ := DataW.trod_string Tryd.underlying9 h
  subst r
  simp only [DataW.lit.injEq, Lit.string.injEq] at hx
  subst hx
  simpa using e
set_option maxRecDepth 100000 in
/-- The second of the rows' list. -/
theorem fld_of_laid {W : World} (h : laidMetH Tryd.prog [("flotilla/shelf.forms", Rows.laid_flotilla_shelf_forms), ("flotilla/mail.fields", Rows.laid_flotilla_mail_fields)] W) : Fld W := by
  have h : laidMet Tryd.prog [("flotilla/shelf.forms", Rows.laid_flotilla_shelf_forms), ("flotilla/mail.fields", Rows.laid_flotilla_mail_fields)] W := h
  obtain ⟨ps, ⟨_, _, _, _, _, _, _, _, _, _, ⟨g', t', cs, fuel, p, q, hg', ht', hvar, hd, _, _⟩, _⟩, _⟩ := h
  obtain rfl := Option.some.inj (Tryd.gFld.symm.trans hg')
  obtain rfl := Option.some.inj (Tryd.gFldType.symm.trans ht')
  obtain ⟨xs, m, _, hx, hl, hlen, hf⟩ := DataW.trod_array Tryd.und103 hd
  rw [Tryd.cells103] at hl
  rw [Tryd.cells9] at hf
  have hxs : xs.map (·.1) = fldN.map fun l => (.lit (.string l) : DataW Unit) := by
    have := congrArg Prod.fst hx
    have e : (.agg (xs.map (·.1)) : DataW Unit) = Rows.laid_flotilla_mail_fields := this.symm
    injection e
  have hcell : ∀ i, i < 16 → W.cell? ⟨1, i, none⟩ = some (.string (fldS i)) := by
    intro i hi
    have hd : (fldN.map fun l => (.lit (.string l) : DataW Unit))[i]? = some (.lit (.string (fldN.getD i []))) := by
      have hlen : fldN.length = 16 := rfl
      rw [List.getElem?_map, List.getD_eq_getElem?_getD, List.getElem?_eq_getElem (by omega)]
      rfl
    obtain ⟨y, hy, e⟩ := map_at hxs hd
    have c := str_cells ((hf i hi).trans hy) e
    have hc : cs.toList[i]? = some (.string (fldS i)) := by
      have := congrArg (fun l => l[0]?) c
      simp only [List.getElem?_take, List.getElem?_drop] at this
      rw [if_pos (by omega)] at this
      simpa [fldS] using this
    rw [World.var?_cell Tryd.gFld hvar i]
    simpa using hc
  exact ⟨World.block_lt_of_cell? W _ (hcell 0 (by omega)), hcell⟩
end Go.Proofs.YteloaggebkbeeaaDoor

namespace Go.Proofs.YteloaggebkbeeaaDoor
open Go.ChangeShapes Go.WideShapes Go.ChangeAt Go.RowKit Go.Deep Go.Joins
set_option linter.unusedVariables false

theorem co3 : Tryd.prog.cellsOf 3 = 1 := by kernel_rfl
theorem co9 : Tryd.prog.cellsOf 9 = 1 := by kernel_rfl
theorem co32 : Tryd.prog.cellsOf 32 = 5 := by kernel_rfl
theorem co23 : Tryd.prog.cellsOf 23 = 10 := by kernel_rfl
theorem i64_wf {n : Int} (h : (Lit.int .i64 n).wf = true) : -9223372036854775808 ≤ n ∧ n ≤ 9223372036854775807 := by
  simpa [Lit.wf, IntKind.min, IntKind.max, IntKind.signed, IntKind.bits] using h
theorem nth {α : Type} {l : List α} {n i : Nat} (hl : l.length = n) (hi : i < n) : ∃ y, l[i]? = some y := ⟨_, List.getElem?_eq_getElem (by omega)⟩
theorem list5 {l : List Value} {a b c d e : Value} (hl : l.length = 5) (h0 : (l.drop 0).take 1 = [a]) (h1 : (l.drop 1).take 1 = [b]) (h2 : (l.drop 2).take 1 = [c]) (h3 : (l.drop 3).take 1 = [d]) (h4 : (l.drop 4).take 1 = [e]) : l = [a, b, c, d, e] := by
  match l, hl with
  | [x0, x1, x2, x3, x4], _ => simp at h0 h1 h2 h3 h4; simp [h0, h1, h2, h3, h4]
theorem list10 {l : List Value} {v0 v1 v2 v3 v4 v5 v6 v7 v8 v9 : Value} (hl : l.length = 10) (h0 : (l.drop 0).take 1 = [v0]) (h1 : (l.drop 1).take 1 = [v1]) (h2 : (l.drop 2).take 1 = [v2]) (h3 : (l.drop 3).take 1 = [v3]) (h4 : (l.drop 4).take 1 = [v4]) (h5 : (l.drop 5).take 1 = [v5]) (h6 : (l.drop 6).take 1 = [v6]) (h7 : (l.drop 7).take 1 = [v7]) (h8 : (l.drop 8).take 1 = [v8]) (h9 : (l.drop 9).take 1 = [v9]) : l = [v0, v1, v2, v3, v4, v5, v6, v7, v8, v9] := by
  match l, hl with
  | [x0, x1, x2, x3, x4, x5, x6, x7, x8, x9], _ => simp at h0 h1 h2 h3 h4 h5 h6 h7 h8 h9; simp [h0, h1, h2, h3, h4, h5, h6, h7, h8, h9]
section
variable {H : Type} {enc : TypeId × Value → H} {W : World} {fuel : Nat} {cs : List Value} {x : DataW H × List MemPlace}
set_option maxRecDepth 100000 in
theorem op_cells (h : DataW.trod enc Tryd.prog W 0 (fun _ => true) true fuel 32 cs = some x) : ∃ k nm tx m q, cs = [.int .i64 k, .string nm, .string tx, .int .i64 m, .int .i64 q] := by
  obtain ⟨xs, f, _, rfl, hl, hlen, hf⟩ := DataW.trod_struct Tryd.underlying32 h
  have hlen : xs.length = 5 := hlen
  obtain ⟨y0, hy0⟩ := nth hlen (i := 0) (by omega)
  obtain ⟨y1, hy1⟩ := nth hlen (i := 1) (by omega)
  obtain ⟨y2, hy2⟩ := nth hlen (i := 2) (by omega)
  obtain ⟨y3, hy3⟩ := nth hlen (i := 3) (by omega)
  obtain ⟨y4, hy4⟩ := nth hlen (i := 4) (by omega)
  have g0 : DataW.trod enc Tryd.prog W 0 (fun _ => true) true f 3 ((cs.drop 0).take (Tryd.prog.cellsOf 3)) = some y0 := (hf 0 _ rfl).trans hy0
  rw [co3] at g0
  have g1 : DataW.trod enc Tryd.prog W 0 (fun _ => true) true f 9 ((cs.drop 1).take (Tryd.prog.cellsOf 9)) = some y1 := (hf 1 _ rfl).trans hy1
  rw [co9] at g1
  have g2 : DataW.trod enc Tryd.prog W 0 (fun _ => true) true f 9 ((cs.drop 2).take (Tryd.prog.cellsOf 9)) = some y2 := (hf 2 _ rfl).trans hy2
  rw [co9] at g2
  have g3 : DataW.trod enc Tryd.prog W 0 (fun _ => true) true f 3 ((cs.drop 3).take (Tryd.prog.cellsOf 3)) = some y3 := (hf 3 _ rfl).trans hy3
  rw [co3] at g3
  have g4 : DataW.trod enc Tryd.prog W 0 (fun _ => true) true f 3 ((cs.drop 4).take (Tryd.prog.cellsOf 3)) = some y4 := (hf 4 _ rfl).trans hy4
  rw [co3] at g4
  rw [co32] at hl
  obtain ⟨k, e0, _, _⟩ := DataW.trod_int Tryd.underlying3 g0
  obtain ⟨nm, e1, _, _⟩ := DataW.trod_string Tryd.underlying9 g1
  obtain ⟨tx, e2, _, _⟩ := DataW.trod_string Tryd.underlying9 g2
  obtain ⟨m, e3, _, _⟩ := DataW.trod_int Tryd.underlying3 g3
  obtain ⟨q, e4, _, _⟩ := DataW.trod_int Tryd.underlying3 g4
  exact ⟨k, nm, tx, m, q, list5 hl e0 e1 e2 e3 e4⟩
set_option maxRecDepth 100000 in
theorem cfg_cells (h : DataW.trod enc Tryd.prog W 0 (fun _ => true) true fuel 23 cs = some x) : ∃ c : Cg, cs = c.cells := by
  obtain ⟨xs, f, _, rfl, hl, hlen, hf⟩ := DataW.trod_struct Tryd.underlying23 h
  have hlen : xs.length = 10 := hlen
  obtain ⟨y0, hy0⟩ := nth hlen (i := 0) (by omega)
  obtain ⟨y1, hy1⟩ := nth hlen (i := 1) (by omega)
  obtain ⟨y2, hy2⟩ := nth hlen (i := 2) (by omega)
  obtain ⟨y3, hy3⟩ := nth hlen (i := 3) (by omega)
  obtain ⟨y4, hy4⟩ := nth hlen (i := 4) (by omega)
  obtain ⟨y5, hy5⟩ := nth hlen (i := 5) (by omega)
  obtain ⟨y6, hy6⟩ := nth hlen (i := 6) (by omega)
  obtain ⟨y7, hy7⟩ := nth hlen (i := 7) (by omega)
  obtain ⟨y8, hy8⟩ := nth hlen (i := 8) (by omega)
  obtain ⟨y9, hy9⟩ := nth hlen (i := 9) (by omega)
  have g0 : DataW.trod enc Tryd.prog W 0 (fun _ => true) true f 3 ((cs.drop 0).take (Tryd.prog.cellsOf 3)) = some y0 := (hf 0 _ rfl).trans hy0
  rw [co3] at g0
  have g1 : DataW.trod enc Tryd.prog W 0 (fun _ => true) true f 3 ((cs.drop 1).take (Tryd.prog.cellsOf 3)) = some y1 := (hf 1 _ rfl).trans hy1
  rw [co3] at g1
  have g2 : DataW.trod enc Tryd.prog W 0 (fun _ => true) true f 3 ((cs.drop 2).take (Tryd.prog.cellsOf 3)) = some y2 := (hf 2 _ rfl).trans hy2
  rw [co3] at g2
  have g3 : DataW.trod enc Tryd.prog W 0 (fun _ => true) true f 3 ((cs.drop 3).take (Tryd.prog.cellsOf 3)) = some y3 := (hf 3 _ rfl).trans hy3
  rw [co3] at g3
  have g4 : DataW.trod enc Tryd.prog W 0 (fun _ => true) true f 3 ((cs.drop 4).take (Tryd.prog.cellsOf 3)) = some y4 := (hf 4 _ rfl).trans hy4
  rw [co3] at g4
  have g5 : DataW.trod enc Tryd.prog W 0 (fun _ => true) true f 3 ((cs.drop 5).take (Tryd.prog.cellsOf 3)) = some y5 := (hf 5 _ rfl).trans hy5
  rw [co3] at g5
  have g6 : DataW.trod enc Tryd.prog W 0 (fun _ => true) true f 3 ((cs.drop 6).take (Tryd.prog.cellsOf 3)) = some y6 := (hf 6 _ rfl).trans hy6
  rw [co3] at g6
  have g7 : DataW.trod enc Tryd.prog W 0 (fun _ => true) true f 3 ((cs.drop 7).take (Tryd.prog.cellsOf 3)) = some y7 := (hf 7 _ rfl).trans hy7
  rw [co3] at g7
  have g8 : DataW.trod enc Tryd.prog W 0 (fun _ => true) true f 3 ((cs.drop 8).take (Tryd.prog.cellsOf 3)) = some y8 := (hf 8 _ rfl).trans hy8
  rw [co3] at g8
  have g9 : DataW.trod enc Tryd.prog W 0 (fun _ => true) true f 3 ((cs.drop 9).take (Tryd.prog.cellsOf 3)) = some y9 := (hf 9 _ rfl).trans hy9
  rw [co3] at g9
  rw [co23] at hl
  obtain ⟨k0, e0, _, _⟩ := DataW.trod_int Tryd.underlying3 g0
  obtain ⟨k1, e1, _, _⟩ := DataW.trod_int Tryd.underlying3 g1
  obtain ⟨k2, e2, _, _⟩ := DataW.trod_int Tryd.underlying3 g2
  obtain ⟨k3, e3, _, _⟩ := DataW.trod_int Tryd.underlying3 g3
  obtain ⟨k4, e4, _, _⟩ := DataW.trod_int Tryd.underlying3 g4
  obtain ⟨k5, e5, _, _⟩ := DataW.trod_int Tryd.underlying3 g5
  obtain ⟨k6, e6, _, _⟩ := DataW.trod_int Tryd.underlying3 g6
  obtain ⟨k7, e7, _, _⟩ := DataW.trod_int Tryd.underlying3 g7
  obtain ⟨k8, e8, _, _⟩ := DataW.trod_int Tryd.underlying3 g8
  obtain ⟨k9, e9, _, _⟩ := DataW.trod_int Tryd.underlying3 g9
  exact ⟨⟨k0, k1, k2, k3, k4, k5, k6, k7, k8, k9⟩, list10 hl e0 e1 e2 e3 e4 e5 e6 e7 e8 e9⟩
theorem open_cfg {v : Value} {d : DataW H} {p : List MemPlace} (h : DataW.Trod enc Tryd.prog W 0 (fun _ => true) true 23 v d p) (hv : ∃ cs, v = .agg cs ∧ cs.size = Tryd.prog.cellsOf 23) : ∃ c : Cg, v = .agg c.cells.toArray := by
  obtain ⟨fuel, hf⟩ := h
  obtain ⟨cs, rfl, _⟩ := hv
  obtain ⟨c, e⟩ := cfg_cells hf
  refine ⟨c, ?_⟩
  obtain ⟨q⟩ := cs
  have e : q = _ := e
  rw [e]
theorem open_op {v : Value} {d : DataW H} {p : List MemPlace} (h : DataW.Trod enc Tryd.prog W 0 (fun _ => true) true 32 v d p) (hv : ∃ cs, v = .agg cs ∧ cs.size = Tryd.prog.cellsOf 32) : ∃ k nm tx m q, v = opV k nm tx m q := by
  obtain ⟨fuel, hf⟩ := h
  obtain ⟨cs, rfl, _⟩ := hv
  obtain ⟨k, nm, tx, m, q, e⟩ := op_cells hf
  refine ⟨k, nm, tx, m, q, ?_⟩
  obtain ⟨l⟩ := cs
  have e : l = _ := e
  rw [e]
theorem open_i64 {n : Int} {d : DataW H} {p : List MemPlace} (h : DataW.Trod enc Tryd.prog W 0 (fun _ => true) true 3 (.int .i64 n) d p) : -9223372036854775808 ≤ n ∧ n ≤ 9223372036854775807 := by
  obtain ⟨fuel, hf⟩ := h
  obtain ⟨k, e, _, hw⟩ := DataW.trod_int Tryd.underlying3 hf
  simp only [Value.cells, List.cons.injEq, Value.int.injEq, and_true, true_and] at e
  subst e
  exact i64_wf hw
end
end Go.Proofs.YteloaggebkbeeaaDoor

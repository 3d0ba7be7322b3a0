import Derived.Test.YtfeppannfcbakaaGreatDoorJ13
import Derived.Test.YtfeppannfcbakaaGreatDoorCards
import Derived.Test.YtfeppannfcbakaaGreatDoorTie
import Derived.ProofKit
import Derived.OpenShut
import Derived.SizedLaws
import Derived.Deep.DeepHandedRow
import Derived.Deep.Slices
import Derived.Lib.LaidTab
import Derived.Lib.SmallJoins
import Derived.Stop.LaidErr
import Derived.Deep.Strs
import Derived.Test.YtfeppannfcbakaaGreatDoorJ17
namespace Go.Proofs.YtfeppannfcbakaaGreatDoor
open Go.ChangeShapes Go.WideShapes Go.ChangeAt Go.RowKit Go.Deep Go.Joins
set_option linter.unusedVariables false

theorem Tryz.own : ownKnob Tryz.prog.godebug = none := by kernel_rfl
theorem Tryz.laidOut : laidOutB Tryz.prog = true := by kernel_rfl
theorem Tryz.gES : Tryz.prog.globalNamed "strconv.ErrSyntax" = some 9 := by kernel_rfl
theorem Tryz.gEST : (Tryz.prog.globals[9]?).map (·.type) = some 108 := by kernel_rfl
theorem Tryz.gER : Tryz.prog.globalNamed "strconv.ErrRange" = some 10 := by kernel_rfl
theorem Tryz.gERT : (Tryz.prog.globals[10]?).map (·.type) = some 108 := by kernel_rfl
theorem Tryz.gPW : Tryz.prog.globalNamed "internal/strconv.uint64pow10" = some 5 := by kernel_rfl
theorem Tryz.gPWT : (Tryz.prog.globals[5]?).map (·.type) = some 204 := by kernel_rfl
theorem Tryz.cellsES : Tryz.prog.cellsOf 235 = 1 := by kernel_rfl
theorem Tryz.cells9 : Tryz.prog.cellsOf 9 = 1 := by kernel_rfl
theorem Tryz.star : "*" ++ "errors.errorString" = "*errors.errorString" := by decide
theorem Tryz.rowES (u : TypeId) (h : Tryz.prog.typeName? 3 u = some "*errors.errorString") : u = 233 :=
  typeName_ptr_named (nm := "errors.errorString") (by rw [Tryz.star]; kernel_rfl) (by kernel_rfl) (by decide) u (by rw [Tryz.star]; exact h)

/-- What the rows' list gives. -/
theorem vars_of_laid {a b : String × DataW Unit} {r : List (String × DataW Unit)} {W : World} (h : laidMet Tryz.prog (a :: b :: ("internal/strconv.uint64pow10", Rows.laid_internal_strconv_uint64pow10) :: ("strconv.ErrRange", Rows.laid_strconv_ErrRange) :: ("strconv.ErrSyntax", Rows.laid_strconv_ErrSyntax) :: r) W) : Vars W := by
  have h1 := h.tail.tail
  obtain ⟨a1, s1, v1, _⟩ := laid_sentinel h1.tail Tryz.gER Tryz.gERT Tryz.underlying108 Tryz.rowES Tryz.underlying233 Tryz.underlying235 rfl rfl Tryz.underlying9 Tryz.cellsES Tryz.cells9
  obtain ⟨a2, s2, v2, _⟩ := laid_sentinel h1.tail.tail Tryz.gES Tryz.gEST Tryz.underlying108 Tryz.rowES Tryz.underlying233 Tryz.underlying235 rfl rfl Tryz.underlying9 Tryz.cellsES Tryz.cells9
  exact ⟨⟨_, _, v2⟩, ⟨_, _, v1⟩, Lib.tabIs_of_head (n := 20) (e := 189) Tryz.gPW Tryz.gPWT Tryz.underlying204 Tryz.underlying189 (by kernel_rfl) (by kernel_rfl) h1⟩

def deB32 : List Int := [0, 1, 28, 2, 29, 14, 24, 3, 30, 22, 20, 15, 25, 17, 4, 8, 31, 27, 13, 23, 21, 19, 16, 7, 26, 12, 18, 6, 11, 5, 10, 9]
def deB64 : List Int := [0, 1, 56, 2, 57, 49, 28, 3, 61, 58, 42, 50, 38, 29, 17, 4, 62, 47, 59, 36, 45, 43, 51, 22, 53, 39, 33, 30, 24, 18, 12, 5, 63, 55, 48, 27, 60, 41, 37, 16, 46, 35, 44, 21, 52, 32, 23, 11, 54, 26, 40, 15, 34, 20, 31, 10, 25, 14, 19, 9, 13, 8, 7, 6]
noncomputable def low : Nat := (World.holding Tryz.prog default ⟨#[], #[], []⟩).heap.size
def accN : List Int := [128, 191, 160, 191, 128, 159, 144, 191, 128, 143, 0, 0, 0, 0, 0, 0, 0, 0, 0, 0, 0, 0, 0, 0, 0, 0, 0, 0, 0, 0, 0, 0]
/-- A world for the witness. -/
noncomputable def laidWorld (os : Os) : World :=
  let w0 := World.holding Tryz.prog os ⟨#[.cells #[.string ⟨#[105, 110, 118, 97, 108, 105, 100, 32, 115, 121, 110, 116, 97, 120]⟩] 235, .cells #[.string ⟨#[118, 97, 108, 117, 101, 32, 111, 117, 116, 32, 111, 102, 32, 114, 97, 110, 103, 101]⟩] 235], #[], []⟩
  { w0 with heap := ((((((((((((w0.heap.modify 9 fun
      | .cells _ t frozen => .cells #[.iface 233 (.pointer (some ⟨low, 0, none⟩))] t frozen
      | o => o).modify 10 fun
      | .cells _ t frozen => .cells #[.iface 233 (.pointer (some ⟨low + 1, 0, none⟩))] t frozen
      | o => o).modify 5 fun
      | .cells _ t frozen => .cells (Lib.pow10Tab.map fun z : Int => Value.int .u64 z).toArray t frozen
      | o => o).modify 11 fun
      | .cells _ t frozen => .cells (deB32.map fun z : Int => Value.int .u8 z).toArray t frozen
      | o => o).modify 12 fun
      | .cells _ t frozen => .cells (deB64.map fun z : Int => Value.int .u8 z).toArray t frozen
      | o => o).modify 4 fun
      | .cells _ t frozen => .cells (formN.map fun n : Int => Value.int .i64 n).toArray t frozen
      | o => o).modify 2 fun
      | .cells _ t frozen => .cells (wfN.flatMap fun p => [Value.string ⟨p.1.toArray⟩, Value.string ⟨p.2.toArray⟩]).toArray t frozen
      | o => o).modify 3 fun
      | .cells _ t frozen => .cells (cdN.map fun p => Value.string ⟨p.toArray⟩).toArray t frozen
      | o => o).modify 0 fun
      | .cells _ t frozen => .cells (kdN.map fun p => Value.string ⟨p.toArray⟩).toArray t frozen
      | o => o).modify 1 fun
      | .cells _ t frozen => .cells (stN.map fun p => Value.string ⟨p.toArray⟩).toArray t frozen
      | o => o).modify 7 fun
      | .cells _ t frozen => .cells (accN.map fun z : Int => Value.int .u8 z).toArray t frozen
      | o => o).modify 6 fun
      | .cells _ t frozen => .cells (Go.Pinned.utf8FirstZ.map fun z : Nat => Value.int .u8 (z : Int)).toArray t frozen
      | o => o) }
end Go.Proofs.YtfeppannfcbakaaGreatDoor

namespace Go.Proofs.YtfeppannfcbakaaGreatDoor
open Go.ChangeShapes Go.WideShapes Go.ChangeAt Go.RowKit Go.Deep Go.Joins
set_option linter.unusedVariables false

theorem Tryz.gTab : Tryz.prog.globalNamed "flotilla/shelf.forms" = some 4 := by kernel_rfl
theorem Tryz.gTabType : (Tryz.prog.globals[4]?).map (·.type) = some 199 := by kernel_rfl
theorem Tryz.cells199 : Tryz.prog.cellsOf 199 = 72 := by kernel_rfl
theorem Tryz.cells198 : Tryz.prog.cellsOf 198 = 8 := by kernel_rfl
theorem Tryz.cells196 : Tryz.prog.cellsOf 196 = 2 := by kernel_rfl
theorem Tryz.cells3 : Tryz.prog.cellsOf 3 = 1 := by kernel_rfl
theorem Tryz.und199 : Tryz.prog.underlying 199 = some (.array 9 198) := by kernel_rfl

theorem map_at {α β : Type} {f : α → β} {xs : List α} {ys : List β} (h : xs.map f = ys) {i : Nat} {d : β} (hd : ys[i]? = some d) : ∃ y, xs[i]? = some y ∧ f y = d := by
  rw [← h, List.getElem?_map, Option.map_eq_some_iff] at hd
  exact hd

section
variable {H : Type} {enc : TypeId × Value → H} {W : World} {base : Nat} {sp : Nat → Bool} {held : Bool} {fuel : Nat} {cs : List Value} {p : List MemPlace}
def spanD (a b : Int) : DataW H := .agg [.lit (.int .i64 a), .lit (.int .i64 b)]
theorem int_cells {n : Nat} {x : DataW H × List MemPlace} {a : Int} (h : DataW.trod enc Tryz.prog W base sp held n 3 cs = some x) (hx : x.1 = .lit (.int .i64 a)) : cs = [.int .i64 a] := by
  obtain ⟨z, e, r, _⟩ := DataW.trod_int Tryz.underlying3 h
  subst r
  simp only [DataW.lit.injEq, Lit.int.injEq, true_and] at hx
  subst hx
  exact e
theorem list2 {l : List Value} {a b : Value} (hl : l.length = 2) (h0 : (l.drop 0).take 1 = [a]) (h1 : (l.drop 1).take 1 = [b]) : l = [a, b] := by
  match l, hl with
  | [x, y], _ => simp at h0 h1; simp [h0, h1]
theorem list8 {l : List Value} {a b c d e f g h : Value} (hl : l.length = 8) (h0 : (l.drop 0).take 2 = [a, b]) (h1 : (l.drop 2).take 2 = [c, d]) (h2 : (l.drop 4).take 2 = [e, f]) (h3 : (l.drop 6).take 2 = [g, h]) : l = [a, b, c, d, e, f, g, h] := by
  match l, hl with
  | [x0, x1, x2, x3, x4, x5, x6, x7], _ => simp at h0 h1 h2 h3; simp [h0, h1, h2, h3]
set_option maxRecDepth 100000 in
theorem span_cells {x : DataW H × List MemPlace} {a b : Int} (h : DataW.trod enc Tryz.prog W base sp held fuel 196 cs = some x) (hx : x.1 = spanD a b) : cs = [.int .i64 a, .int .i64 b] := by
  obtain ⟨xs, n, _, hx', hl, hlen, hf⟩ := DataW.trod_struct Tryz.underlying196 h
  subst hx'
  have hx : xs.map (·.1) = [.lit (.int .i64 a), .lit (.int .i64 b)] := by simp only [spanD] at hx; injection hx
  obtain ⟨y0, hy0, e0⟩ := map_at hx (i := 0) rfl
  obtain ⟨y1, hy1, e1⟩ := map_at hx (i := 1) rfl
  have g0 : DataW.trod enc Tryz.prog W base sp held n 3 ((cs.drop 0).take (Tryz.prog.cellsOf 3)) = some y0 := (hf 0 _ rfl).trans hy0
  have g1 : DataW.trod enc Tryz.prog W base sp held n 3 ((cs.drop 1).take (Tryz.prog.cellsOf 3)) = some y1 := (hf 1 _ rfl).trans hy1
  rw [Tryz.cells3] at g0 g1
  rw [Tryz.cells196] at hl
  exact list2 hl (int_cells g0 e0) (int_cells g1 e1)
set_option maxRecDepth 100000 in
theorem form_cells {x : DataW H × List MemPlace} {a0 a1 a2 a3 a4 a5 a6 a7 : Int} (h : DataW.trod enc Tryz.prog W base sp held fuel 198 cs = some x) (hx : x.1 = .agg [spanD a0 a1, spanD a2 a3, spanD a4 a5, spanD a6 a7]) : cs = [.int .i64 a0, .int .i64 a1, .int .i64 a2, .int .i64 a3, .int .i64 a4, .int .i64 a5, .int .i64 a6, .int .i64 a7] := by
  obtain ⟨xs, n, _, hx', hl, hlen, hf⟩ := DataW.trod_struct Tryz.underlying198 h
  subst hx'
  have hx : xs.map (·.1) = [spanD a0 a1, spanD a2 a3, spanD a4 a5, spanD a6 a7] := by injection hx
  obtain ⟨y0, hy0, e0⟩ := map_at hx (i := 0) rfl
  obtain ⟨y1, hy1, e1⟩ := map_at hx (i := 1) rfl
  obtain ⟨y2, hy2, e2⟩ := map_at hx (i := 2) rfl
  obtain ⟨y3, hy3, e3⟩ := map_at hx (i := 3) rfl
  have g0 : DataW.trod enc Tryz.prog W base sp held n 196 ((cs.drop 0).take (Tryz.prog.cellsOf 196)) = some y0 := (hf 0 _ rfl).trans hy0
  have g1 : DataW.trod enc Tryz.prog W base sp held n 196 ((cs.drop 2).take (Tryz.prog.cellsOf 196)) = some y1 := (hf 1 _ rfl).trans hy1
  have g2 : DataW.trod enc Tryz.prog W base sp held n 196 ((cs.drop 4).take (Tryz.prog.cellsOf 196)) = some y2 := (hf 2 _ rfl).trans hy2
  have g3 : DataW.trod enc Tryz.prog W base sp held n 196 ((cs.drop 6).take (Tryz.prog.cellsOf 196)) = some y3 := (hf 3 _ rfl).trans hy3
  rw [Tryz.cells196] at g0 g1 g2 g3
  rw [Tryz.cells198] at hl
  exact list8 hl (span_cells g0 e0) (span_cells g1 e1) (span_cells g2 e2) (span_cells g3 e3)
end

set_option maxRecDepth 100000 in
/-- What the rows' list gives. -/
theorem tab_of_laid {a b c d e : String × DataW Unit} {r : List (String × DataW Unit)} {W : World} (h : laidMet Tryz.prog (a :: b :: c :: d :: e :: ("flotilla/shelf.forms", Rows.laid_flotilla_shelf_forms) :: r) W) : Tab W := by
  obtain ⟨ps, ⟨g', t', cs, fuel, p, q, hg', ht', hvar, hd, _, _⟩, _⟩ := h.tail.tail.tail.tail.tail
  obtain rfl := Option.some.inj (Tryz.gTab.symm.trans hg')
  obtain rfl := Option.some.inj (Tryz.gTabType.symm.trans ht')
  obtain ⟨xs, m, _, hx, hl, hlen, hf⟩ := DataW.trod_array Tryz.und199 hd
  rw [Tryz.cells199] at hl
  rw [Tryz.cells198] at hf
  have hxs : xs.map (·.1) = [.agg [spanD 0 0, spanD 0 0, spanD 0 0, spanD 0 0], .agg [spanD 1 16, spanD 0 0, spanD 0 0, spanD 0 0], .agg [spanD 1 16, spanD 0 0, spanD 0 0, spanD 0 0], .agg [spanD 1 16, spanD 0 64, spanD 0 0, spanD 0 0], .agg [spanD 1 16, spanD 0 0, spanD 0 1099511627776, spanD 0 0], .agg [spanD 1 16, spanD 1 16, spanD 0 0, spanD 0 0], .agg [spanD 1 16, spanD 0 0, spanD 0 1099511627776, spanD 1 8], .agg [spanD 1 16, spanD 0 0, spanD 0 0, spanD 0 0], .agg [spanD 0 0, spanD 0 0, spanD 0 0, spanD 0 0]] := by
    have := congrArg Prod.fst hx
    have e : (.agg (xs.map (·.1)) : DataW Unit) = Rows.laid_flotilla_shelf_forms := this.symm
    injection e
  obtain ⟨y0, hy0, e0⟩ := map_at hxs (i := 0) rfl
  have c0 : (cs.toList.drop (0 * 8)).take 8 = [Value.int .i64 0, .int .i64 0, .int .i64 0, .int .i64 0, .int .i64 0, .int .i64 0, .int .i64 0, .int .i64 0] := form_cells ((hf 0 (by omega)).trans hy0) e0
  obtain ⟨y1, hy1, e1⟩ := map_at hxs (i := 1) rfl
  have c1 : (cs.toList.drop (1 * 8)).take 8 = [Value.int .i64 1, .int .i64 16, .int .i64 0, .int .i64 0, .int .i64 0, .int .i64 0, .int .i64 0, .int .i64 0] := form_cells ((hf 1 (by omega)).trans hy1) e1
  obtain ⟨y2, hy2, e2⟩ := map_at hxs (i := 2) rfl
  have c2 : (cs.toList.drop (2 * 8)).take 8 = [Value.int .i64 1, .int .i64 16, .int .i64 0, .int .i64 0, .int .i64 0, .int .i64 0, .int .i64 0, .int .i64 0] := form_cells ((hf 2 (by omega)).trans hy2) e2
  obtain ⟨y3, hy3, e3⟩ := map_at hxs (i := 3) rfl
  have c3 : (cs.toList.drop (3 * 8)).take 8 = [Value.int .i64 1, .int .i64 16, .int .i64 0, .int .i64 64, .int .i64 0, .int .i64 0, .int .i64 0, .int .i64 0] := form_cells ((hf 3 (by omega)).trans hy3) e3
  obtain ⟨y4, hy4, e4⟩ := map_at hxs (i := 4) rfl
  have c4 : (cs.toList.drop (4 * 8)).take 8 = [Value.int .i64 1, .int .i64 16, .int .i64 0, .int .i64 0, .int .i64 0, .int .i64 1099511627776, .int .i64 0, .int .i64 0] := form_cells ((hf 4 (by omega)).trans hy4) e4
  obtain ⟨y5, hy5, e5⟩ := map_at hxs (i := 5) rfl
  have c5 : (cs.toList.drop (5 * 8)).take 8 = [Value.int .i64 1, .int .i64 16, .int .i64 1, .int .i64 16, .int .i64 0, .int .i64 0, .int .i64 0, .int .i64 0] := form_cells ((hf 5 (by omega)).trans hy5) e5
  obtain ⟨y6, hy6, e6⟩ := map_at hxs (i := 6) rfl
  have c6 : (cs.toList.drop (6 * 8)).take 8 = [Value.int .i64 1, .int .i64 16, .int .i64 0, .int .i64 0, .int .i64 0, .int .i64 1099511627776, .int .i64 1, .int .i64 8] := form_cells ((hf 6 (by omega)).trans hy6) e6
  obtain ⟨y7, hy7, e7⟩ := map_at hxs (i := 7) rfl
  have c7 : (cs.toList.drop (7 * 8)).take 8 = [Value.int .i64 1, .int .i64 16, .int .i64 0, .int .i64 0, .int .i64 0, .int .i64 0, .int .i64 0, .int .i64 0] := form_cells ((hf 7 (by omega)).trans hy7) e7
  obtain ⟨y8, hy8, e8⟩ := map_at hxs (i := 8) rfl
  have c8 : (cs.toList.drop (8 * 8)).take 8 = [Value.int .i64 0, .int .i64 0, .int .i64 0, .int .i64 0, .int .i64 0, .int .i64 0, .int .i64 0, .int .i64 0] := form_cells ((hf 8 (by omega)).trans hy8) e8
  have hall : ∀ i, i < 72 → cs.toList[i]? = some (.int .i64 (formN.getD i 0)) := by
    intro i hi
    have hc : ∀ r, r < 9 → (cs.toList.drop (r * 8)).take 8 = ((formN.drop (r * 8)).take 8).map (Value.int .i64) := by
      intro r hr
      obtain rfl | rfl | rfl | rfl | rfl | rfl | rfl | rfl | rfl : r = 0 ∨ r = 1 ∨ r = 2 ∨ r = 3 ∨ r = 4 ∨ r = 5 ∨ r = 6 ∨ r = 7 ∨ r = 8 := by omega
      · exact c0
      · exact c1
      · exact c2
      · exact c3
      · exact c4
      · exact c5
      · exact c6
      · exact c7
      · exact c8
    have h1 := congrArg (fun l => l[i % 8]?) (hc (i / 8) (by omega))
    simp only [List.getElem?_take, List.getElem?_drop, List.getElem?_map] at h1
    rw [if_pos (by omega), if_pos (by omega)] at h1
    have e : i / 8 * 8 + i % 8 = i := by omega
    rw [e] at h1
    rw [h1, List.getD_eq_getElem?_getD, List.getElem?_eq_getElem (by simpa [formN] using hi)]
    rfl
  have hcell : ∀ i, i < 72 → W.cell? ⟨4, i, none⟩ = some (.int .i64 (formN.getD i 0)) := by
    intro i hi
    have := World.var?_cell Tryz.gTab hvar i
    rw [this]
    simpa using hall i hi
  exact ⟨World.block_lt_of_cell? W _ (hcell 0 (by omega)), hcell⟩

theorem str_cells {H : Type} {enc : TypeId × Value → H} {W : World} {base : Nat} {sp : Nat → Bool} {held : Bool} {n : Nat} {cs : List Value} {x : DataW H × List MemPlace} {l : List UInt8} (h : DataW.trod enc Tryz.prog W base sp held n 9 cs = some x) (hx : x.1 = .lit (.string l)) : cs = [.string ⟨l.toArray⟩] := by
  obtain ⟨s, e, r, _⟩ := DataW.trod_string Tryz.underlying9 h
  subst r
  simp only [DataW.lit.injEq, Lit.string.injEq] at hx
  subst hx
  simpa using e
theorem Tryz.gWf : Tryz.prog.globalNamed "flotilla/words.forms" = some 2 := by kernel_rfl
theorem Tryz.gWfType : (Tryz.prog.globals[2]?).map (·.type) = some 172 := by kernel_rfl
theorem Tryz.cells172 : Tryz.prog.cellsOf 172 = 18 := by kernel_rfl
theorem Tryz.cells171 : Tryz.prog.cellsOf 171 = 2 := by kernel_rfl
theorem Tryz.cells24 : Tryz.prog.cellsOf 24 = 5 := by kernel_rfl
theorem Tryz.bytes9 : Tryz.prog.bytesOf 9 = 16 := by kernel_rfl
theorem Tryz.und172 : Tryz.prog.underlying 172 = some (.array 9 171) := by kernel_rfl
theorem nth {α : Type} {l : List α} {n i : Nat} (hl : l.length = n) (hi : i < n) : ∃ y, l[i]? = some y := ⟨_, List.getElem?_eq_getElem (by omega)⟩
theorem i64_wf {n : Int} (h : (Lit.int .i64 n).wf = true) : -9223372036854775808 ≤ n ∧ n < 9223372036854775808 := by
  have : -9223372036854775808 ≤ n ∧ n ≤ 9223372036854775807 := by simpa [Lit.wf, IntKind.min, IntKind.max, IntKind.signed, IntKind.bits] using h
  omega
theorem list5 {l : List Value} {a b c d e : Value} (hl : l.length = 5) (h0 : (l.drop 0).take 1 = [a]) (h1 : (l.drop 1).take 1 = [b]) (h2 : (l.drop 2).take 1 = [c]) (h3 : (l.drop 3).take 1 = [d]) (h4 : (l.drop 4).take 1 = [e]) : l = [a, b, c, d, e] := by
  match l, hl with
  | [x0, x1, x2, x3, x4], _ => simp at h0 h1 h2 h3 h4; simp [h0, h1, h2, h3, h4]
section
variable {H : Type} {enc : TypeId × Value → H} {W : World} {base : Nat} {sp : Nat → Bool} {held : Bool} {fuel : Nat} {cs : List Value} {x : DataW H × List MemPlace}
set_option maxRecDepth 100000 in
theorem pair_cells {a b : List UInt8} (h : DataW.trod enc Tryz.prog W base sp held fuel 171 cs = some x) (hx : x.1 = .agg [.lit (.string a), .lit (.string b)]) : cs = [.string ⟨a.toArray⟩, .string ⟨b.toArray⟩] := by
  obtain ⟨xs, n, _, hx', hl, hlen, hf⟩ := DataW.trod_struct Tryz.underlying171 h
  subst hx'
  have hx : xs.map (·.1) = [.lit (.string a), .lit (.string b)] := by injection hx
  obtain ⟨y0, hy0, e0⟩ := map_at hx (i := 0) rfl
  obtain ⟨y1, hy1, e1⟩ := map_at hx (i := 1) rfl
  have g0 : DataW.trod enc Tryz.prog W base sp held n 9 ((cs.drop 0).take (Tryz.prog.cellsOf 9)) = some y0 := (hf 0 _ rfl).trans hy0
  have g1 : DataW.trod enc Tryz.prog W base sp held n 9 ((cs.drop 1).take (Tryz.prog.cellsOf 9)) = some y1 := (hf 1 _ rfl).trans hy1
  rw [Tryz.cells9] at g0 g1
  rw [Tryz.cells171] at hl
  exact list2 hl (str_cells g0 e0) (str_cells g1 e1)
set_option maxRecDepth 100000 in
/-- An op's cells. -/
theorem op_cells (h : DataW.trod enc Tryz.prog W base sp held fuel 24 cs = some x) : ∃ k nm tx n m, cs = [.int .i64 k, .string nm, .string tx, .int .i64 n, .int .i64 m] := by
  obtain ⟨xs, f, _, rfl, hl, hlen, hf⟩ := DataW.trod_struct Tryz.underlying24 h
  have hlen : xs.length = 5 := hlen
  obtain ⟨y0, hy0⟩ := nth hlen (i := 0) (by omega)
  obtain ⟨y1, hy1⟩ := nth hlen (i := 1) (by omega)
  obtain ⟨y2, hy2⟩ := nth hlen (i := 2) (by omega)
  obtain ⟨y3, hy3⟩ := nth hlen (i := 3) (by omega)
  obtain ⟨y4, hy4⟩ := nth hlen (i := 4) (by omega)
  have g0 : DataW.trod enc Tryz.prog W base sp held f 3 ((cs.drop 0).take (Tryz.prog.cellsOf 3)) = some y0 := (hf 0 _ rfl).trans hy0
  have g1 : DataW.trod enc Tryz.prog W base sp held f 9 ((cs.drop 1).take (Tryz.prog.cellsOf 9)) = some y1 := (hf 1 _ rfl).trans hy1
  have g2 : DataW.trod enc Tryz.prog W base sp held f 9 ((cs.drop 2).take (Tryz.prog.cellsOf 9)) = some y2 := (hf 2 _ rfl).trans hy2
  have g3 : DataW.trod enc Tryz.prog W base sp held f 3 ((cs.drop 3).take (Tryz.prog.cellsOf 3)) = some y3 := (hf 3 _ rfl).trans hy3
  have g4 : DataW.trod enc Tryz.prog W base sp held f 3 ((cs.drop 4).take (Tryz.prog.cellsOf 3)) = some y4 := (hf 4 _ rfl).trans hy4
  rw [Tryz.cells3] at g0 g3 g4
  rw [Tryz.cells9] at g1 g2
  rw [Tryz.cells24] at hl
  obtain ⟨k, e0, _, _⟩ := DataW.trod_int Tryz.underlying3 g0
  obtain ⟨nm, e1, _, _⟩ := DataW.trod_string Tryz.underlying9 g1
  obtain ⟨tx, e2, _, _⟩ := DataW.trod_string Tryz.underlying9 g2
  obtain ⟨n, e3, _, _⟩ := DataW.trod_int Tryz.underlying3 g3
  obtain ⟨m, e4, _, _⟩ := DataW.trod_int Tryz.underlying3 g4
  exact ⟨k, nm, tx, n, m, list5 hl e0 e1 e2 e3 e4⟩
set_option maxRecDepth 100000 in
/-- An op that came in. -/
theorem open_op {v : Value} {d : DataW H} {p : List MemPlace} (h : DataW.Trod enc Tryz.prog W 0 (fun _ => true) true 24 v d p) (hv : ∃ cs, v = .agg cs ∧ cs.size = Tryz.prog.cellsOf 24) : ∃ k, ∃ (nm tx : List UInt8), ∃ n m, v = opV k ⟨nm.toArray⟩ ⟨tx.toArray⟩ n m := by
  obtain ⟨fuel, hf⟩ := h
  obtain ⟨cs, rfl, _⟩ := hv
  obtain ⟨k, nm, tx, n, m, e⟩ := op_cells hf
  refine ⟨k, nm.data.toList, tx.data.toList, n, m, ?_⟩
  obtain ⟨l⟩ := cs
  have e : l = _ := e
  rw [e]
set_option maxRecDepth 100000 in
theorem weights_all (Sx : Nat → ByteArray) (l : List Nat) {i : Nat} (hi : i ∈ l) : (Sx i).data.toList.length ∈ DataW.weightsAll Tryz.prog 9 (l.map fun i => (.lit (.string (Sx i).data.toList) : DataW H)) := by
  induction l with
  | nil => simp at hi
  | cons a r ih =>
    simp only [List.map_cons, DataW.weightsAll, DataW.weights, List.mem_append, List.mem_singleton]
    rcases List.mem_cons.1 hi with rfl | h
    · exact Or.inl rfl
    · exact Or.inr (ih h)
set_option maxRecDepth 100000 in
/-- Texts that came in, with how much they hold. -/
theorem texts_sized (h : DataW.trod enc Tryz.prog W base sp held fuel 27 cs = some x) (hw : ∀ n ∈ x.1.weights Tryz.prog 27, n ≤ reachBytes) : ∃ s l, cs = [s] ∧ Rt W s l ∧ l.length * 16 ≤ reachBytes ∧ ∀ y ∈ l, y.length ≤ reachBytes := by
  rcases open_strs Tryz.underlying27 Tryz.underlying9 Tryz.cells9 h with ⟨rfl, rfl⟩ | ⟨a, len, cap, m, Sx, rfl, _, hl, hm, hmm, rfl, hc⟩
  · exact ⟨_, [], rfl, ⟨none, 0, rfl, by simp, Or.inl rfl⟩, by simp, by simp⟩
  · have hlm : len ≤ m := by rw [hmm]; split <;> omega
    simp only [DataW.weights, Tryz.underlying27, Tryz.bytes9, List.length_map, List.length_range] at hw
    refine ⟨_, (List.range len).map fun i => (Sx i).data.toList, rfl, ⟨some a, cap, by simp, by simpa using hl, ?_⟩, ?_, fun y hy => ?_⟩
    · by_cases h0 : len = 0
      · left; subst h0; rfl
      · right
        have hc0 := (hc 0 (by omega)).1
        have hsp : a.spot = none := by
          have := World.cell?_spot hc0
          simpa [Addr.add] using this
        obtain ⟨b, off, sp'⟩ := a
        simp only at hsp
        subst hsp
        refine ⟨b, off, rfl, ?_, fun j hj => ?_⟩
        · have := World.block_lt_of_cell? W _ hc0
          simpa [Addr.add] using this
        · have hj' : j < len := by simpa using hj
          have h1 := (hc j (by omega)).1
          rw [Addr.add_lit] at h1
          rw [h1]
          simp
    · have := hw _ (List.mem_cons_self ..)
      rw [List.length_map, List.length_range]
      omega
    · obtain ⟨i, hi, rfl⟩ := List.mem_map.1 hy
      exact hw _ (List.mem_cons_of_mem _ (List.mem_append_left _ (weights_all Sx _ hi)))
set_option maxRecDepth 100000 in
theorem open_ws {v : Value} {d : DataW H} {p : List MemPlace} (h : DataW.Trod enc Tryz.prog W 0 (fun _ => true) true 27 v d p) (hv : ∃ a l c, v = .slice a l c) (hw : ∀ n ∈ d.weights Tryz.prog 27, n ≤ reachBytes) : ∃ ws, Rt W v ws ∧ ws.length * 16 ≤ reachBytes ∧ ∀ y ∈ ws, y.length ≤ reachBytes := by
  obtain ⟨fuel, hf⟩ := h
  obtain ⟨a0, l0, c0, rfl⟩ := hv
  obtain ⟨s, l, e, hr, hz⟩ := texts_sized hf hw
  simp [Value.cells] at e
  subst e
  exact ⟨l, hr, hz⟩
end
set_option maxRecDepth 100000 in
theorem wf_of_laid {a b c d e f : String × DataW Unit} {r : List (String × DataW Unit)} {W : World} (h : laidMet Tryz.prog (a :: b :: c :: d :: e :: f :: ("flotilla/words.forms", Rows.laid_flotilla_words_forms) :: r) W) : Wf W := by
  obtain ⟨ps, ⟨g', t', cs, fuel, p, q, hg', ht', hvar, hd, _, _⟩, _⟩ := h.tail.tail.tail.tail.tail.tail
  obtain rfl := Option.some.inj (Tryz.gWf.symm.trans hg')
  obtain rfl := Option.some.inj (Tryz.gWfType.symm.trans ht')
  obtain ⟨xs, m, _, hx, hl, hlen, hf⟩ := DataW.trod_array Tryz.und172 hd
  rw [Tryz.cells172] at hl
  rw [Tryz.cells171] at hf
  have hxs : xs.map (·.1) = wfN.map fun q => (.agg [.lit (.string q.1), .lit (.string q.2)] : DataW Unit) := by
    have := congrArg Prod.fst hx
    have e : (.agg (xs.map (·.1)) : DataW Unit) = Rows.laid_flotilla_words_forms := this.symm
    injection e
  have hcell : ∀ i, i < 9 → W.cell? ⟨2, i * 2, none⟩ = some (.string ⟨(nmN i).toArray⟩) ∧ W.cell? ⟨2, i * 2 + 1, none⟩ = some (.string ⟨(ltN i).toArray⟩) := by
    intro i hi
    have hd : (wfN.map fun q => (.agg [.lit (.string q.1), .lit (.string q.2)] : DataW Unit))[i]? = some (.agg [.lit (.string (nmN i)), .lit (.string (ltN i))]) := by
      have hlen : wfN.length = 9 := rfl
      unfold nmN ltN
      rw [List.getElem?_map, List.getD_eq_getElem?_getD, List.getElem?_eq_getElem (by omega)]
      rfl
    obtain ⟨y, hy, e⟩ := map_at hxs hd
    have c := pair_cells ((hf i hi).trans hy) e
    have c0 := congrArg (fun l => l[0]?) c
    have c1 := congrArg (fun l => l[1]?) c
    simp only [List.getElem?_take, List.getElem?_drop] at c0 c1
    rw [if_pos (by omega)] at c0 c1
    refine ⟨?_, ?_⟩
    · rw [World.var?_cell Tryz.gWf hvar (i * 2)]
      simpa using c0
    · rw [World.var?_cell Tryz.gWf hvar (i * 2 + 1)]
      simpa using c1
  exact ⟨World.block_lt_of_cell? W _ (hcell 0 (by omega)).1, hcell⟩
theorem Tryz.gCd : Tryz.prog.globalNamed "flotilla/words.codes" = some 3 := by kernel_rfl
theorem Tryz.gCdType : (Tryz.prog.globals[3]?).map (·.type) = some 175 := by kernel_rfl
theorem Tryz.cells175 : Tryz.prog.cellsOf 175 = 5 := by kernel_rfl
theorem Tryz.und175 : Tryz.prog.underlying 175 = some (.array 5 9) := by kernel_rfl
set_option maxRecDepth 100000 in
theorem cd_of_laid {a b c d e f g : String × DataW Unit} {r : List (String × DataW Unit)} {W : World} (h : laidMet Tryz.prog (a :: b :: c :: d :: e :: f :: g :: ("flotilla/words.codes", Rows.laid_flotilla_words_codes) :: r) W) : Cd W := by
  obtain ⟨ps, ⟨g', t', cs, fuel, p, q, hg', ht', hvar, hd, _, _⟩, _⟩ := h.tail.tail.tail.tail.tail.tail.tail
  obtain rfl := Option.some.inj (Tryz.gCd.symm.trans hg')
  obtain rfl := Option.some.inj (Tryz.gCdType.symm.trans ht')
  obtain ⟨xs, m, _, hx, hl, hlen, hf⟩ := DataW.trod_array Tryz.und175 hd
  rw [Tryz.cells175] at hl
  rw [Tryz.cells9] at hf
  have hxs : xs.map (·.1) = cdN.map fun l => (.lit (.string l) : DataW Unit) := by
    have := congrArg Prod.fst hx
    have e : (.agg (xs.map (·.1)) : DataW Unit) = Rows.laid_flotilla_words_codes := this.symm
    injection e
  have hcell : ∀ i, i < 5 → W.cell? ⟨3, i, none⟩ = some (.string ⟨(cdN.getD i []).toArray⟩) := by
    intro i hi
    have hd : (cdN.map fun l => (.lit (.string l) : DataW Unit))[i]? = some (.lit (.string (cdN.getD i []))) := by
      have hlen : cdN.length = 5 := rfl
      rw [List.getElem?_map, List.getD_eq_getElem?_getD, List.getElem?_eq_getElem (by omega)]
      rfl
    obtain ⟨y, hy, e⟩ := map_at hxs hd
    have c := str_cells ((hf i hi).trans hy) e
    have hc : cs.toList[i]? = some (.string ⟨(cdN.getD i []).toArray⟩) := by
      have := congrArg (fun l => l[0]?) c
      simp only [List.getElem?_take, List.getElem?_drop] at this
      rw [if_pos (by omega)] at this
      simpa using this
    rw [World.var?_cell Tryz.gCd hvar i]
    simpa using hc
  exact ⟨World.block_lt_of_cell? W _ (hcell 0 (by omega)), hcell⟩
theorem Tryz.gKdt : Tryz.prog.globalNamed "flotilla/story.kinds" = some 0 := by kernel_rfl
theorem Tryz.gKdtType : (Tryz.prog.globals[0]?).map (·.type) = some 68 := by kernel_rfl
theorem Tryz.cells68 : Tryz.prog.cellsOf 68 = 12 := by kernel_rfl
theorem Tryz.und68 : Tryz.prog.underlying 68 = some (.array 12 9) := by kernel_rfl
set_option maxRecDepth 100000 in
theorem kd_of_laid {a b c d e f g k : String × DataW Unit} {r : List (String × DataW Unit)} {W : World} (h : laidMet Tryz.prog (a :: b :: c :: d :: e :: f :: g :: k :: ("flotilla/story.kinds", Rows.laid_flotilla_story_kinds) :: r) W) : Kdt W := by
  obtain ⟨ps, ⟨g', t', cs, fuel, p, q, hg', ht', hvar, hd, _, _⟩, _⟩ := h.tail.tail.tail.tail.tail.tail.tail.tail
  obtain rfl := Option.some.inj (Tryz.gKdt.symm.trans hg')
  obtain rfl := Option.some.inj (Tryz.gKdtType.symm.trans ht')
  obtain ⟨xs, m, _, hx, hl, hlen, hf⟩ := DataW.trod_array Tryz.und68 hd
  rw [Tryz.cells68] at hl
  rw [Tryz.cells9] at hf
  have hxs : xs.map (·.1) = kdN.map fun l => (.lit (.string l) : DataW Unit) := by
    have := congrArg Prod.fst hx
    have e : (.agg (xs.map (·.1)) : DataW Unit) = Rows.laid_flotilla_story_kinds := this.symm
    injection e
  have hcell : ∀ i, i < 12 → W.cell? ⟨0, i, none⟩ = some (.string ⟨(kdN.getD i []).toArray⟩) := by
    intro i hi
    have hd : (kdN.map fun l => (.lit (.string l) : DataW Unit))[i]? = some (.lit (.string (kdN.getD i []))) := by
      have hlen : kdN.length = 12 := rfl
      rw [List.getElem?_map, List.getD_eq_getElem?_getD, List.getElem?_eq_getElem (by omega)]
      rfl
    obtain ⟨y, hy, e⟩ := map_at hxs hd
    have c := str_cells ((hf i hi).trans hy) e
    have hc : cs.toList[i]? = some (.string ⟨(kdN.getD i []).toArray⟩) := by
      have := congrArg (fun l => l[0]?) c
      simp only [List.getElem?_take, List.getElem?_drop] at this
      rw [if_pos (by omega)] at this
      simpa using this
    rw [World.var?_cell Tryz.gKdt hvar i]
    simpa using hc
  exact ⟨World.block_lt_of_cell? W _ (hcell 0 (by omega)), hcell⟩
theorem Tryz.gStt : Tryz.prog.globalNamed "flotilla/story.statuses" = some 1 := by kernel_rfl
theorem Tryz.gSttType : (Tryz.prog.globals[1]?).map (·.type) = some 145 := by kernel_rfl
theorem Tryz.cells145 : Tryz.prog.cellsOf 145 = 4 := by kernel_rfl
theorem Tryz.und145 : Tryz.prog.underlying 145 = some (.array 4 9) := by kernel_rfl
set_option maxRecDepth 100000 in
theorem st_of_laid {a b c d e f g k l : String × DataW Unit} {r : List (String × DataW Unit)} {W : World} (h : laidMet Tryz.prog (a :: b :: c :: d :: e :: f :: g :: k :: l :: ("flotilla/story.statuses", Rows.laid_flotilla_story_statuses) :: r) W) : Stt W := by
  obtain ⟨ps, ⟨g', t', cs, fuel, p, q, hg', ht', hvar, hd, _, _⟩, _⟩ := h.tail.tail.tail.tail.tail.tail.tail.tail.tail
  obtain rfl := Option.some.inj (Tryz.gStt.symm.trans hg')
  obtain rfl := Option.some.inj (Tryz.gSttType.symm.trans ht')
  obtain ⟨xs, m, _, hx, hl, hlen, hf⟩ := DataW.trod_array Tryz.und145 hd
  rw [Tryz.cells145] at hl
  rw [Tryz.cells9] at hf
  have hxs : xs.map (·.1) = stN.map fun l => (.lit (.string l) : DataW Unit) := by
    have := congrArg Prod.fst hx
    have e : (.agg (xs.map (·.1)) : DataW Unit) = Rows.laid_flotilla_story_statuses := this.symm
    injection e
  have hcell : ∀ i, i < 4 → W.cell? ⟨1, i, none⟩ = some (.string ⟨(stN.getD i []).toArray⟩) := by
    intro i hi
    have hd : (stN.map fun l => (.lit (.string l) : DataW Unit))[i]? = some (.lit (.string (stN.getD i []))) := by
      have hlen : stN.length = 4 := rfl
      rw [List.getElem?_map, List.getD_eq_getElem?_getD, List.getElem?_eq_getElem (by omega)]
      rfl
    obtain ⟨y, hy, e⟩ := map_at hxs hd
    have c := str_cells ((hf i hi).trans hy) e
    have hc : cs.toList[i]? = some (.string ⟨(stN.getD i []).toArray⟩) := by
      have := congrArg (fun l => l[0]?) c
      simp only [List.getElem?_take, List.getElem?_drop] at this
      rw [if_pos (by omega)] at this
      simpa using this
    rw [World.var?_cell Tryz.gStt hvar i]
    simpa using hc
  exact ⟨World.block_lt_of_cell? W _ (hcell 0 (by omega)), hcell⟩
theorem en_of_laid {W : World} (h : laidMet Tryz.prog Rows.storyBackRow.laid W) : En W := ⟨vars_of_laid h, tab_of_laid h, wf_of_laid h, cd_of_laid h, st_of_laid h, kd_of_laid h⟩
end Go.Proofs.YtfeppannfcbakaaGreatDoor

namespace Go.Proofs.YtfeppannfcbakaaGreatDoor
open Go.ChangeShapes Go.WideShapes Go.ChangeAt Go.RowKit Go.Deep Go.Joins
set_option linter.unusedVariables false

theorem reach_num : reachBytes = 140737488351232 := by decide
theorem u8_wf {n : Int} (h : (Lit.int .u8 n).wf = true) : 0 ≤ n ∧ n < 256 := by
  have : 0 ≤ n ∧ n ≤ 255 := by simpa [Lit.wf, IntKind.min, IntKind.max, IntKind.signed, IntKind.bits] using h
  omega
theorem Tryz.cells4 : Tryz.prog.cellsOf 4 = 1 := by kernel_rfl
theorem Tryz.cells5 : Tryz.prog.cellsOf 5 = 1 := by kernel_rfl
theorem Tryz.cells22 : Tryz.prog.cellsOf 22 = 1 := by kernel_rfl
theorem Tryz.cells26 : Tryz.prog.cellsOf 26 = 7 := by kernel_rfl
theorem Tryz.cells27 : Tryz.prog.cellsOf 27 = 1 := by kernel_rfl
theorem Tryz.cells29 : Tryz.prog.cellsOf 29 = 3 := by kernel_rfl
theorem Tryz.cells31 : Tryz.prog.cellsOf 31 = 8 := by kernel_rfl
theorem Tryz.cells32 : Tryz.prog.cellsOf 32 = 1 := by kernel_rfl
theorem Tryz.cells34 : Tryz.prog.cellsOf 34 = 3 := by kernel_rfl
theorem Tryz.cells36 : Tryz.prog.cellsOf 36 = 33 := by kernel_rfl
theorem Tryz.bytes5 : Tryz.prog.bytesOf 5 = 1 := by kernel_rfl
section
variable {H : Type} {enc : TypeId × Value → H} {W : World}
set_option maxRecDepth 100000 in
theorem data_cells {n : Nat} {cs : List Value} {x : DataW H × List MemPlace} (h : DataW.trod enc Tryz.prog W 0 (fun _ => true) true n 32 cs = some x) (hz : ∀ n ∈ x.1.weights Tryz.prog 32, n ≤ reachBytes) : ∃ a c bs, cs = [.slice a (List.length bs) c] ∧ Reads W (.slice a (List.length bs) c) bs ∧ bs.length ≤ 140737488351232 := by
  rcases open_ints Tryz.underlying32 Tryz.underlying5 Tryz.cells5 h with ⟨hcs, hx⟩ | ⟨a, l0, c0, zs, hcs, _, hl, hm, hz2, hx, hcell, hwz⟩
  · exact ⟨_, _, [], hcs, Reads.nil _, by simp⟩
  · simp only [if_true] at hz2
    have hlz : ((zs.take l0).map fun z => UInt8.ofNat z.toNat).length = l0 := by simp; omega
    refine ⟨some a, c0, (zs.take l0).map fun z => UInt8.ofNat z.toNat, by rw [hlz]; exact hcs, ?_, ?_⟩
    · rw [hlz]
      by_cases h0 : l0 = 0
      · subst h0
        exact ⟨some a, c0, by simp, by simp, Or.inl ⟨by simp, fun h => by cases h⟩⟩
      · have hc0 := hcell 0 (by omega)
        have hsp : a.spot = none := by
          have := World.cell?_spot hc0
          simpa [Addr.add] using this
        obtain ⟨b, off, sp⟩ := a
        simp only at hsp
        subst hsp
        refine ⟨_, c0, by rw [hlz], by rw [hlz]; exact hl, Or.inr ⟨b, off, rfl, ?_, fun j u hu => ?_⟩⟩
        · have := World.block_lt_of_cell? W _ hc0
          simpa [Addr.add] using this
        · have hj : j < l0 := by
            have := (List.getElem?_eq_some_iff.1 hu).1
            rw [cellsB_length, hlz] at this
            exact this
          have hjz : j < zs.length := by omega
          have hc := hcell j hjz
          rw [Addr.add_lit] at hc
          rw [hc, ← hu]
          have hw := u8_wf (hwz zs[j] (List.getElem_mem hjz))
          have e : ((UInt8.ofNat zs[j].toNat).toNat : Int) = zs[j] := by
            rw [UInt8.toNat_ofNat']
            omega
          simp only [cellsB, List.getElem?_map, List.getElem?_take, hj, if_true, List.getElem?_eq_getElem hjz, Option.map_some, List.getD, Option.getD_some, e]
    · rw [hlz]
      rw [hx] at hz
      have := hz ((l0 + (zs.length - l0)) * 1) (by
        simp [DataW.weights, Tryz.underlying32, Tryz.bytes5, lits, Nat.min_eq_left (show l0 ≤ zs.length by omega)])
      rw [reach_num] at this
      omega
theorem BRd.of_reads {w : World} {s : Value} {l : List UInt8} (h : Reads w s l) : BRd w s l := by
  obtain ⟨ao, c, e, hc, hx⟩ := h
  refine ⟨ao, c, e, hc, ?_⟩
  rcases hx with ⟨h0, _⟩ | ⟨g, o, ea, hg, hcell⟩
  · exact Or.inl h0
  · exact Or.inr ⟨g, o, ea, hg, fun j b hj => hcell j _ (by simp [cellsB, hj])⟩
theorem take_drop_step {α : Type} (l : List α) (a b : Nat) : l.drop a = (l.drop a).take b ++ l.drop (a + b) := by rw [← List.drop_drop, List.take_append_drop]
set_option maxRecDepth 100000 in
theorem entry_cells {fuel : Nat} {cs : List Value} {x : DataW H × List MemPlace} (h : DataW.trod enc Tryz.prog W 0 (fun _ => true) true fuel 26 cs = some x) : ∃ c q k nm tx n m, cs = [.int .i64 c, .int .i64 q, .int .i64 k, .string nm, .string tx, .int .i64 n, .int .i64 m] ∧ c ≤ 9223372036854775807 ∧ q ≤ 9223372036854775807 := by
  obtain ⟨xs, f, _, rfl, hl, hlen, hf⟩ := DataW.trod_struct Tryz.underlying26 h
  have hlen : xs.length = 3 := hlen
  rw [Tryz.cells26] at hl
  obtain ⟨y0, hy0⟩ := nth hlen (i := 0) (by omega)
  have g0 : DataW.trod enc Tryz.prog W 0 (fun _ => true) true f 3 ((cs.drop 0).take (Tryz.prog.cellsOf 3)) = some y0 := (hf 0 _ rfl).trans hy0
  rw [Tryz.cells3] at g0
  obtain ⟨c, e0, _, w0⟩ := DataW.trod_int Tryz.underlying3 g0
  have b0 := i64_wf w0
  obtain ⟨y1, hy1⟩ := nth hlen (i := 1) (by omega)
  have g1 : DataW.trod enc Tryz.prog W 0 (fun _ => true) true f 3 ((cs.drop 1).take (Tryz.prog.cellsOf 3)) = some y1 := (hf 1 _ rfl).trans hy1
  rw [Tryz.cells3] at g1
  obtain ⟨q, e1, _, w1⟩ := DataW.trod_int Tryz.underlying3 g1
  have b1 := i64_wf w1
  obtain ⟨y2, hy2⟩ := nth hlen (i := 2) (by omega)
  have g2 : DataW.trod enc Tryz.prog W 0 (fun _ => true) true f 24 ((cs.drop 2).take (Tryz.prog.cellsOf 24)) = some y2 := (hf 2 _ rfl).trans hy2
  rw [Tryz.cells24] at g2
  obtain ⟨k, nm, tx, n, m, e2⟩ := op_cells g2
  have j2 : cs.drop 2 = (cs.drop 2).take 5 := (List.take_of_length_le (by rw [List.length_drop]; omega)).symm
  have j1 : cs.drop 1 = (cs.drop 1).take 1 ++ ((cs.drop 2).take 5) := (take_drop_step cs 1 1).trans (congrArg ((cs.drop 1).take 1 ++ ·) j2)
  have j0 : cs.drop 0 = (cs.drop 0).take 1 ++ ((cs.drop 1).take 1 ++ ((cs.drop 2).take 5)) := (take_drop_step cs 0 1).trans (congrArg ((cs.drop 0).take 1 ++ ·) j1)
  have hcs : cs = (cs.drop 0).take 1 ++ ((cs.drop 1).take 1 ++ ((cs.drop 2).take 5)) := List.drop_zero.symm.trans j0
  rw [e0, e1, e2] at hcs
  exact ⟨c, q, k, nm, tx, n, m, hcs, by omega, by omega⟩
set_option maxRecDepth 100000 in
theorem res_cells {fuel : Nat} {cs : List Value} {x : DataW H × List MemPlace} (h : DataW.trod enc Tryz.prog W 0 (fun _ => true) true fuel 29 cs = some x) (hz : ∀ n ∈ x.1.weights Tryz.prog 29, n ≤ reachBytes) : ∃ c n s l, cs = [.int .i64 c, .int .i64 n, s] ∧ Rt W s l ∧ l.length * 16 ≤ reachBytes := by
  obtain ⟨xs, f, _, rfl, hl, hlen, hf⟩ := DataW.trod_struct Tryz.underlying29 h
  have hlen : xs.length = 3 := hlen
  rw [Tryz.cells29] at hl
  obtain ⟨y0, hy0⟩ := nth hlen (i := 0) (by omega)
  have g0 : DataW.trod enc Tryz.prog W 0 (fun _ => true) true f 3 ((cs.drop 0).take (Tryz.prog.cellsOf 3)) = some y0 := (hf 0 _ rfl).trans hy0
  rw [Tryz.cells3] at g0
  obtain ⟨c, e0, _, w0⟩ := DataW.trod_int Tryz.underlying3 g0
  have b0 := i64_wf w0
  obtain ⟨y1, hy1⟩ := nth hlen (i := 1) (by omega)
  have g1 : DataW.trod enc Tryz.prog W 0 (fun _ => true) true f 3 ((cs.drop 1).take (Tryz.prog.cellsOf 3)) = some y1 := (hf 1 _ rfl).trans hy1
  rw [Tryz.cells3] at g1
  obtain ⟨n, e1, _, w1⟩ := DataW.trod_int Tryz.underlying3 g1
  have b1 := i64_wf w1
  obtain ⟨y2, hy2⟩ := nth hlen (i := 2) (by omega)
  have g2 : DataW.trod enc Tryz.prog W 0 (fun _ => true) true f 27 ((cs.drop 2).take (Tryz.prog.cellsOf 27)) = some y2 := (hf 2 _ rfl).trans hy2
  rw [Tryz.cells27] at g2
  have hz2 : ∀ n ∈ y2.1.weights Tryz.prog 27, n ≤ reachBytes := fun n hn => hz n (by
    simp only [DataW.weights, Tryz.underlying29]
    exact DataW.weights_mem_each (j := 2) (t := 27) rfl (by simp [hy2]) n hn)
  obtain ⟨s, l, e2, ht, hl2, hl3⟩ := texts_sized g2 hz2
  have j2 : cs.drop 2 = (cs.drop 2).take 1 := (List.take_of_length_le (by rw [List.length_drop]; omega)).symm
  have j1 : cs.drop 1 = (cs.drop 1).take 1 ++ ((cs.drop 2).take 1) := (take_drop_step cs 1 1).trans (congrArg ((cs.drop 1).take 1 ++ ·) j2)
  have j0 : cs.drop 0 = (cs.drop 0).take 1 ++ ((cs.drop 1).take 1 ++ ((cs.drop 2).take 1)) := (take_drop_step cs 0 1).trans (congrArg ((cs.drop 0).take 1 ++ ·) j1)
  have hcs : cs = (cs.drop 0).take 1 ++ ((cs.drop 1).take 1 ++ ((cs.drop 2).take 1)) := List.drop_zero.symm.trans j0
  rw [e0, e1, e2] at hcs
  exact ⟨c, n, s, l, hcs, ht, hl2⟩
set_option maxRecDepth 100000 in
theorem look_cells {fuel : Nat} {cs : List Value} {x : DataW H × List MemPlace} (h : DataW.trod enc Tryz.prog W 0 (fun _ => true) true fuel 31 cs = some x) : ∃ z0 z1 z2 z3 z4 z5 z6 z7, cs = [.int .i64 z0, .int .i64 z1, .int .i64 z2, .int .i64 z3, .int .i64 z4, .int .i64 z5, .int .i64 z6, .int .i64 z7] ∧ z0 ≤ 9223372036854775807 ∧ z1 ≤ 9223372036854775807 ∧ z2 ≤ 9223372036854775807 ∧ z3 ≤ 9223372036854775807 ∧ z4 ≤ 9223372036854775807 ∧ z5 ≤ 9223372036854775807 ∧ z6 ≤ 9223372036854775807 ∧ z7 ≤ 9223372036854775807 := by
  obtain ⟨xs, f, _, rfl, hl, hlen, hf⟩ := DataW.trod_struct Tryz.underlying31 h
  have hlen : xs.length = 8 := hlen
  rw [Tryz.cells31] at hl
  obtain ⟨y0, hy0⟩ := nth hlen (i := 0) (by omega)
  have g0 : DataW.trod enc Tryz.prog W 0 (fun _ => true) true f 3 ((cs.drop 0).take (Tryz.prog.cellsOf 3)) = some y0 := (hf 0 _ rfl).trans hy0
  rw [Tryz.cells3] at g0
  obtain ⟨z0, e0, _, w0⟩ := DataW.trod_int Tryz.underlying3 g0
  have b0 := i64_wf w0
  obtain ⟨y1, hy1⟩ := nth hlen (i := 1) (by omega)
  have g1 : DataW.trod enc Tryz.prog W 0 (fun _ => true) true f 3 ((cs.drop 1).take (Tryz.prog.cellsOf 3)) = some y1 := (hf 1 _ rfl).trans hy1
  rw [Tryz.cells3] at g1
  obtain ⟨z1, e1, _, w1⟩ := DataW.trod_int Tryz.underlying3 g1
  have b1 := i64_wf w1
  obtain ⟨y2, hy2⟩ := nth hlen (i := 2) (by omega)
  have g2 : DataW.trod enc Tryz.prog W 0 (fun _ => true) true f 3 ((cs.drop 2).take (Tryz.prog.cellsOf 3)) = some y2 := (hf 2 _ rfl).trans hy2
  rw [Tryz.cells3] at g2
  obtain ⟨z2, e2, _, w2⟩ := DataW.trod_int Tryz.underlying3 g2
  have b2 := i64_wf w2
  obtain ⟨y3, hy3⟩ := nth hlen (i := 3) (by omega)
  have g3 : DataW.trod enc Tryz.prog W 0 (fun _ => true) true f 3 ((cs.drop 3).take (Tryz.prog.cellsOf 3)) = some y3 := (hf 3 _ rfl).trans hy3
  rw [Tryz.cells3] at g3
  obtain ⟨z3, e3, _, w3⟩ := DataW.trod_int Tryz.underlying3 g3
  have b3 := i64_wf w3
  obtain ⟨y4, hy4⟩ := nth hlen (i := 4) (by omega)
  have g4 : DataW.trod enc Tryz.prog W 0 (fun _ => true) true f 3 ((cs.drop 4).take (Tryz.prog.cellsOf 3)) = some y4 := (hf 4 _ rfl).trans hy4
  rw [Tryz.cells3] at g4
  obtain ⟨z4, e4, _, w4⟩ := DataW.trod_int Tryz.underlying3 g4
  have b4 := i64_wf w4
  obtain ⟨y5, hy5⟩ := nth hlen (i := 5) (by omega)
  have g5 : DataW.trod enc Tryz.prog W 0 (fun _ => true) true f 3 ((cs.drop 5).take (Tryz.prog.cellsOf 3)) = some y5 := (hf 5 _ rfl).trans hy5
  rw [Tryz.cells3] at g5
  obtain ⟨z5, e5, _, w5⟩ := DataW.trod_int Tryz.underlying3 g5
  have b5 := i64_wf w5
  obtain ⟨y6, hy6⟩ := nth hlen (i := 6) (by omega)
  have g6 : DataW.trod enc Tryz.prog W 0 (fun _ => true) true f 3 ((cs.drop 6).take (Tryz.prog.cellsOf 3)) = some y6 := (hf 6 _ rfl).trans hy6
  rw [Tryz.cells3] at g6
  obtain ⟨z6, e6, _, w6⟩ := DataW.trod_int Tryz.underlying3 g6
  have b6 := i64_wf w6
  obtain ⟨y7, hy7⟩ := nth hlen (i := 7) (by omega)
  have g7 : DataW.trod enc Tryz.prog W 0 (fun _ => true) true f 3 ((cs.drop 7).take (Tryz.prog.cellsOf 3)) = some y7 := (hf 7 _ rfl).trans hy7
  rw [Tryz.cells3] at g7
  obtain ⟨z7, e7, _, w7⟩ := DataW.trod_int Tryz.underlying3 g7
  have b7 := i64_wf w7
  have j7 : cs.drop 7 = (cs.drop 7).take 1 := (List.take_of_length_le (by rw [List.length_drop]; omega)).symm
  have j6 : cs.drop 6 = (cs.drop 6).take 1 ++ ((cs.drop 7).take 1) := (take_drop_step cs 6 1).trans (congrArg ((cs.drop 6).take 1 ++ ·) j7)
  have j5 : cs.drop 5 = (cs.drop 5).take 1 ++ ((cs.drop 6).take 1 ++ ((cs.drop 7).take 1)) := (take_drop_step cs 5 1).trans (congrArg ((cs.drop 5).take 1 ++ ·) j6)
  have j4 : cs.drop 4 = (cs.drop 4).take 1 ++ ((cs.drop 5).take 1 ++ ((cs.drop 6).take 1 ++ ((cs.drop 7).take 1))) := (take_drop_step cs 4 1).trans (congrArg ((cs.drop 4).take 1 ++ ·) j5)
  have j3 : cs.drop 3 = (cs.drop 3).take 1 ++ ((cs.drop 4).take 1 ++ ((cs.drop 5).take 1 ++ ((cs.drop 6).take 1 ++ ((cs.drop 7).take 1)))) := (take_drop_step cs 3 1).trans (congrArg ((cs.drop 3).take 1 ++ ·) j4)
  have j2 : cs.drop 2 = (cs.drop 2).take 1 ++ ((cs.drop 3).take 1 ++ ((cs.drop 4).take 1 ++ ((cs.drop 5).take 1 ++ ((cs.drop 6).take 1 ++ ((cs.drop 7).take 1))))) := (take_drop_step cs 2 1).trans (congrArg ((cs.drop 2).take 1 ++ ·) j3)
  have j1 : cs.drop 1 = (cs.drop 1).take 1 ++ ((cs.drop 2).take 1 ++ ((cs.drop 3).take 1 ++ ((cs.drop 4).take 1 ++ ((cs.drop 5).take 1 ++ ((cs.drop 6).take 1 ++ ((cs.drop 7).take 1)))))) := (take_drop_step cs 1 1).trans (congrArg ((cs.drop 1).take 1 ++ ·) j2)
  have j0 : cs.drop 0 = (cs.drop 0).take 1 ++ ((cs.drop 1).take 1 ++ ((cs.drop 2).take 1 ++ ((cs.drop 3).take 1 ++ ((cs.drop 4).take 1 ++ ((cs.drop 5).take 1 ++ ((cs.drop 6).take 1 ++ ((cs.drop 7).take 1))))))) := (take_drop_step cs 0 1).trans (congrArg ((cs.drop 0).take 1 ++ ·) j1)
  have hcs : cs = (cs.drop 0).take 1 ++ ((cs.drop 1).take 1 ++ ((cs.drop 2).take 1 ++ ((cs.drop 3).take 1 ++ ((cs.drop 4).take 1 ++ ((cs.drop 5).take 1 ++ ((cs.drop 6).take 1 ++ ((cs.drop 7).take 1))))))) := List.drop_zero.symm.trans j0
  rw [e0, e1, e2, e3, e4, e5, e6, e7] at hcs
  exact ⟨z0, z1, z2, z3, z4, z5, z6, z7, hcs, by omega, by omega, by omega, by omega, by omega, by omega, by omega, by omega⟩
set_option maxRecDepth 100000 in
theorem sheet_cells {fuel : Nat} {cs : List Value} {x : DataW H × List MemPlace} (h : DataW.trod enc Tryz.prog W 0 (fun _ => true) true fuel 34 cs = some x) (hz : ∀ n ∈ x.1.weights Tryz.prog 34, n ≤ reachBytes) : ∃ c q da dc bs, cs = [.int .i64 c, .int .i64 q, .slice da (List.length bs) dc] ∧ c ≤ 9223372036854775807 ∧ q ≤ 9223372036854775807 ∧ BRd W (.slice da (List.length bs) dc) bs ∧ bs.length ≤ 140737488351232 := by
  obtain ⟨xs, f, _, rfl, hl, hlen, hf⟩ := DataW.trod_struct Tryz.underlying34 h
  have hlen : xs.length = 3 := hlen
  rw [Tryz.cells34] at hl
  obtain ⟨y0, hy0⟩ := nth hlen (i := 0) (by omega)
  have g0 : DataW.trod enc Tryz.prog W 0 (fun _ => true) true f 3 ((cs.drop 0).take (Tryz.prog.cellsOf 3)) = some y0 := (hf 0 _ rfl).trans hy0
  rw [Tryz.cells3] at g0
  obtain ⟨c, e0, _, w0⟩ := DataW.trod_int Tryz.underlying3 g0
  have b0 := i64_wf w0
  obtain ⟨y1, hy1⟩ := nth hlen (i := 1) (by omega)
  have g1 : DataW.trod enc Tryz.prog W 0 (fun _ => true) true f 3 ((cs.drop 1).take (Tryz.prog.cellsOf 3)) = some y1 := (hf 1 _ rfl).trans hy1
  rw [Tryz.cells3] at g1
  obtain ⟨q, e1, _, w1⟩ := DataW.trod_int Tryz.underlying3 g1
  have b1 := i64_wf w1
  obtain ⟨y2, hy2⟩ := nth hlen (i := 2) (by omega)
  have g2 : DataW.trod enc Tryz.prog W 0 (fun _ => true) true f 32 ((cs.drop 2).take (Tryz.prog.cellsOf 32)) = some y2 := (hf 2 _ rfl).trans hy2
  rw [Tryz.cells32] at g2
  have hz2 : ∀ n ∈ y2.1.weights Tryz.prog 32, n ≤ reachBytes := fun n hn => hz n (by
    simp only [DataW.weights, Tryz.underlying34]
    exact DataW.weights_mem_each (j := 2) (t := 32) rfl (by simp [hy2]) n hn)
  obtain ⟨da, dc, bs, e2, hr, hb⟩ := data_cells g2 hz2
  have j2 : cs.drop 2 = (cs.drop 2).take 1 := (List.take_of_length_le (by rw [List.length_drop]; omega)).symm
  have j1 : cs.drop 1 = (cs.drop 1).take 1 ++ ((cs.drop 2).take 1) := (take_drop_step cs 1 1).trans (congrArg ((cs.drop 1).take 1 ++ ·) j2)
  have j0 : cs.drop 0 = (cs.drop 0).take 1 ++ ((cs.drop 1).take 1 ++ ((cs.drop 2).take 1)) := (take_drop_step cs 0 1).trans (congrArg ((cs.drop 0).take 1 ++ ·) j1)
  have hcs : cs = (cs.drop 0).take 1 ++ ((cs.drop 1).take 1 ++ ((cs.drop 2).take 1)) := List.drop_zero.symm.trans j0
  rw [e0, e1, e2] at hcs
  exact ⟨c, q, da, dc, bs, hcs, by omega, by omega, BRd.of_reads hr, hb⟩
set_option maxRecDepth 100000 in
theorem ev_cells {fuel : Nat} {cs : List Value} {x : DataW H × List MemPlace} (h : DataW.trod enc Tryz.prog W 0 (fun _ => true) true fuel 36 cs = some x) (hz : ∀ n ∈ x.1.weights Tryz.prog 36, n ≤ reachBytes) : ∃ (e : Ev) (items : Ws) (data : List UInt8), cs = e.cells ∧ e.Rg ∧ items.length = e.rik ∧ data.length = e.dik ∧ Rt W (.slice e.ria e.rik e.ric) items ∧ BRd W (.slice e.dia e.dik e.dic) data ∧ items.length ≤ 140737488355328 ∧ data.length ≤ 140737488355328 := by
  obtain ⟨xs, f, _, rfl, hl, hlen, hf⟩ := DataW.trod_struct Tryz.underlying36 h
  have hlen : xs.length = 12 := hlen
  rw [Tryz.cells36] at hl
  obtain ⟨y0, hy0⟩ := nth hlen (i := 0) (by omega)
  have g0 : DataW.trod enc Tryz.prog W 0 (fun _ => true) true f 3 ((cs.drop 0).take (Tryz.prog.cellsOf 3)) = some y0 := (hf 0 _ rfl).trans hy0
  rw [Tryz.cells3] at g0
  obtain ⟨x0, e0, _, w0⟩ := DataW.trod_int Tryz.underlying3 g0
  have b0 := i64_wf w0
  obtain ⟨y1, hy1⟩ := nth hlen (i := 1) (by omega)
  have g1 : DataW.trod enc Tryz.prog W 0 (fun _ => true) true f 3 ((cs.drop 1).take (Tryz.prog.cellsOf 3)) = some y1 := (hf 1 _ rfl).trans hy1
  rw [Tryz.cells3] at g1
  obtain ⟨x1, e1, _, w1⟩ := DataW.trod_int Tryz.underlying3 g1
  have b1 := i64_wf w1
  obtain ⟨y2, hy2⟩ := nth hlen (i := 2) (by omega)
  have g2 : DataW.trod enc Tryz.prog W 0 (fun _ => true) true f 3 ((cs.drop 2).take (Tryz.prog.cellsOf 3)) = some y2 := (hf 2 _ rfl).trans hy2
  rw [Tryz.cells3] at g2
  obtain ⟨x2, e2, _, w2⟩ := DataW.trod_int Tryz.underlying3 g2
  have b2 := i64_wf w2
  obtain ⟨y3, hy3⟩ := nth hlen (i := 3) (by omega)
  have g3 : DataW.trod enc Tryz.prog W 0 (fun _ => true) true f 3 ((cs.drop 3).take (Tryz.prog.cellsOf 3)) = some y3 := (hf 3 _ rfl).trans hy3
  rw [Tryz.cells3] at g3
  obtain ⟨x3, e3, _, w3⟩ := DataW.trod_int Tryz.underlying3 g3
  have b3 := i64_wf w3
  obtain ⟨y4, hy4⟩ := nth hlen (i := 4) (by omega)
  have g4 : DataW.trod enc Tryz.prog W 0 (fun _ => true) true f 3 ((cs.drop 4).take (Tryz.prog.cellsOf 3)) = some y4 := (hf 4 _ rfl).trans hy4
  rw [Tryz.cells3] at g4
  obtain ⟨x4, e4, _, w4⟩ := DataW.trod_int Tryz.underlying3 g4
  have b4 := i64_wf w4
  obtain ⟨y5, hy5⟩ := nth hlen (i := 5) (by omega)
  have g5 : DataW.trod enc Tryz.prog W 0 (fun _ => true) true f 22 ((cs.drop 5).take (Tryz.prog.cellsOf 22)) = some y5 := (hf 5 _ rfl).trans hy5
  rw [Tryz.cells22] at g5
  obtain ⟨x5, e5, _, w5⟩ := DataW.trod_int Tryz.underlying22 g5
  have b5 := i64_wf w5
  obtain ⟨y6, hy6⟩ := nth hlen (i := 6) (by omega)
  have g6 : DataW.trod enc Tryz.prog W 0 (fun _ => true) true f 4 ((cs.drop 6).take (Tryz.prog.cellsOf 4)) = some y6 := (hf 6 _ rfl).trans hy6
  rw [Tryz.cells4] at g6
  obtain ⟨x6, e6, _⟩ := DataW.trod_bool Tryz.underlying4 g6
  obtain ⟨y7, hy7⟩ := nth hlen (i := 7) (by omega)
  have g7 : DataW.trod enc Tryz.prog W 0 (fun _ => true) true f 24 ((cs.drop 7).take (Tryz.prog.cellsOf 24)) = some y7 := (hf 7 _ rfl).trans hy7
  rw [Tryz.cells24] at g7
  obtain ⟨k7, nm7, tx7, n7, m7, e7⟩ := op_cells g7
  obtain ⟨y8, hy8⟩ := nth hlen (i := 8) (by omega)
  have g8 : DataW.trod enc Tryz.prog W 0 (fun _ => true) true f 26 ((cs.drop 12).take (Tryz.prog.cellsOf 26)) = some y8 := (hf 8 _ rfl).trans hy8
  rw [Tryz.cells26] at g8
  obtain ⟨c8, q8, k8, nm8, tx8, n8, m8, e8, u8, v8⟩ := entry_cells g8
  obtain ⟨y9, hy9⟩ := nth hlen (i := 9) (by omega)
  have g9 : DataW.trod enc Tryz.prog W 0 (fun _ => true) true f 29 ((cs.drop 19).take (Tryz.prog.cellsOf 29)) = some y9 := (hf 9 _ rfl).trans hy9
  rw [Tryz.cells29] at g9
  have hz9 : ∀ n ∈ y9.1.weights Tryz.prog 29, n ≤ reachBytes := fun n hn => hz n (by
    simp only [DataW.weights, Tryz.underlying36]
    exact DataW.weights_mem_each (j := 9) (t := 29) rfl (by simp [hy9]) n hn)
  obtain ⟨c9, n9, s9, l9, e9, ht, hl2⟩ := res_cells g9 hz9
  obtain ⟨y10, hy10⟩ := nth hlen (i := 10) (by omega)
  have g10 : DataW.trod enc Tryz.prog W 0 (fun _ => true) true f 31 ((cs.drop 22).take (Tryz.prog.cellsOf 31)) = some y10 := (hf 10 _ rfl).trans hy10
  rw [Tryz.cells31] at g10
  obtain ⟨z0, z1, z2, z3, z4, z5, z6, z7, e10, f0, f1, f2, f3, f4, f5, f6, f7⟩ := look_cells g10
  obtain ⟨y11, hy11⟩ := nth hlen (i := 11) (by omega)
  have g11 : DataW.trod enc Tryz.prog W 0 (fun _ => true) true f 34 ((cs.drop 30).take (Tryz.prog.cellsOf 34)) = some y11 := (hf 11 _ rfl).trans hy11
  rw [Tryz.cells34] at g11
  have hz11 : ∀ n ∈ y11.1.weights Tryz.prog 34, n ≤ reachBytes := fun n hn => hz n (by
    simp only [DataW.weights, Tryz.underlying36]
    exact DataW.weights_mem_each (j := 11) (t := 34) rfl (by simp [hy11]) n hn)
  obtain ⟨c11, q11, da, dc, bs, e11, u11, v11, hr, hb⟩ := sheet_cells g11 hz11
  have j11 : cs.drop 30 = (cs.drop 30).take 3 := (List.take_of_length_le (by rw [List.length_drop]; omega)).symm
  have j10 : cs.drop 22 = (cs.drop 22).take 8 ++ ((cs.drop 30).take 3) := (take_drop_step cs 22 8).trans (congrArg ((cs.drop 22).take 8 ++ ·) j11)
  have j9 : cs.drop 19 = (cs.drop 19).take 3 ++ ((cs.drop 22).take 8 ++ ((cs.drop 30).take 3)) := (take_drop_step cs 19 3).trans (congrArg ((cs.drop 19).take 3 ++ ·) j10)
  have j8 : cs.drop 12 = (cs.drop 12).take 7 ++ ((cs.drop 19).take 3 ++ ((cs.drop 22).take 8 ++ ((cs.drop 30).take 3))) := (take_drop_step cs 12 7).trans (congrArg ((cs.drop 12).take 7 ++ ·) j9)
  have j7 : cs.drop 7 = (cs.drop 7).take 5 ++ ((cs.drop 12).take 7 ++ ((cs.drop 19).take 3 ++ ((cs.drop 22).take 8 ++ ((cs.drop 30).take 3)))) := (take_drop_step cs 7 5).trans (congrArg ((cs.drop 7).take 5 ++ ·) j8)
  have j6 : cs.drop 6 = (cs.drop 6).take 1 ++ ((cs.drop 7).take 5 ++ ((cs.drop 12).take 7 ++ ((cs.drop 19).take 3 ++ ((cs.drop 22).take 8 ++ ((cs.drop 30).take 3))))) := (take_drop_step cs 6 1).trans (congrArg ((cs.drop 6).take 1 ++ ·) j7)
  have j5 : cs.drop 5 = (cs.drop 5).take 1 ++ ((cs.drop 6).take 1 ++ ((cs.drop 7).take 5 ++ ((cs.drop 12).take 7 ++ ((cs.drop 19).take 3 ++ ((cs.drop 22).take 8 ++ ((cs.drop 30).take 3)))))) := (take_drop_step cs 5 1).trans (congrArg ((cs.drop 5).take 1 ++ ·) j6)
  have j4 : cs.drop 4 = (cs.drop 4).take 1 ++ ((cs.drop 5).take 1 ++ ((cs.drop 6).take 1 ++ ((cs.drop 7).take 5 ++ ((cs.drop 12).take 7 ++ ((cs.drop 19).take 3 ++ ((cs.drop 22).take 8 ++ ((cs.drop 30).take 3))))))) := (take_drop_step cs 4 1).trans (congrArg ((cs.drop 4).take 1 ++ ·) j5)
  have j3 : cs.drop 3 = (cs.drop 3).take 1 ++ ((cs.drop 4).take 1 ++ ((cs.drop 5).take 1 ++ ((cs.drop 6).take 1 ++ ((cs.drop 7).take 5 ++ ((cs.drop 12).take 7 ++ ((cs.drop 19).take 3 ++ ((cs.drop 22).take 8 ++ ((cs.drop 30).take 3)))))))) := (take_drop_step cs 3 1).trans (congrArg ((cs.drop 3).take 1 ++ ·) j4)
  have j2 : cs.drop 2 = (cs.drop 2).take 1 ++ ((cs.drop 3).take 1 ++ ((cs.drop 4).take 1 ++ ((cs.drop 5).take 1 ++ ((cs.drop 6).take 1 ++ ((cs.drop 7).take 5 ++ ((cs.drop 12).take 7 ++ ((cs.drop 19).take 3 ++ ((cs.drop 22).take 8 ++ ((cs.drop 30).take 3))))))))) := (take_drop_step cs 2 1).trans (congrArg ((cs.drop 2).take 1 ++ ·) j3)
  have j1 : cs.drop 1 = (cs.drop 1).take 1 ++ ((cs.drop 2).take 1 ++ ((cs.drop 3).take 1 ++ ((cs.drop 4).take 1 ++ ((cs.drop 5).take 1 ++ ((cs.drop 6).take 1 ++ ((cs.drop 7).take 5 ++ ((cs.drop 12).take 7 ++ ((cs.drop 19).take 3 ++ ((cs.drop 22).take 8 ++ ((cs.drop 30).take 3)))))))))) := (take_drop_step cs 1 1).trans (congrArg ((cs.drop 1).take 1 ++ ·) j2)
  have j0 : cs.drop 0 = (cs.drop 0).take 1 ++ ((cs.drop 1).take 1 ++ ((cs.drop 2).take 1 ++ ((cs.drop 3).take 1 ++ ((cs.drop 4).take 1 ++ ((cs.drop 5).take 1 ++ ((cs.drop 6).take 1 ++ ((cs.drop 7).take 5 ++ ((cs.drop 12).take 7 ++ ((cs.drop 19).take 3 ++ ((cs.drop 22).take 8 ++ ((cs.drop 30).take 3))))))))))) := (take_drop_step cs 0 1).trans (congrArg ((cs.drop 0).take 1 ++ ·) j1)
  have hcs : cs = (cs.drop 0).take 1 ++ ((cs.drop 1).take 1 ++ ((cs.drop 2).take 1 ++ ((cs.drop 3).take 1 ++ ((cs.drop 4).take 1 ++ ((cs.drop 5).take 1 ++ ((cs.drop 6).take 1 ++ ((cs.drop 7).take 5 ++ ((cs.drop 12).take 7 ++ ((cs.drop 19).take 3 ++ ((cs.drop 22).take 8 ++ ((cs.drop 30).take 3))))))))))) := List.drop_zero.symm.trans j0
  obtain ⟨ra, rc, rfl⟩ := ht.form
  rw [e0, e1, e2, e3, e4, e5, e6, e7, e8, e9, e10, e11] at hcs
  have hr2 := reach_num
  refine ⟨⟨x0, x1, x2, x3, x4, x5, x6, k7, nm7.data.toList, tx7.data.toList, n7, m7, c8, q8, k8, nm8.data.toList, tx8.data.toList, n8, m8, c9, n9, ra, l9.length, rc, z0, z1, z2, z3, z4, z5, z6, z7, c11, q11, da, bs.length, dc⟩, l9, bs, ?_, ?_, rfl, rfl, ht, hr, by omega, by omega⟩
  · rw [hcs]
    rfl
  · constructor <;> first | assumption | (simp only; omega)
set_option maxRecDepth 100000 in
/-- An event that came in. -/
theorem open_event {v : Value} {d : DataW H} {p : List MemPlace} (h : DataW.Trod enc Tryz.prog W 0 (fun _ => true) true 36 v d p) (hv : ∃ cs, v = .agg cs ∧ cs.size = Tryz.prog.cellsOf 36) (hz : ∀ n ∈ d.weights Tryz.prog 36, n ≤ reachBytes) :
    ∃ (e : Ev) (items : Ws) (data : List UInt8), v = .agg e.cells.toArray ∧ e.Rg ∧ items.length = e.rik ∧ data.length = e.dik ∧ Rt W (.slice e.ria e.rik e.ric) items ∧ BRd W (.slice e.dia e.dik e.dic) data ∧ items.length ≤ 140737488355328 ∧ data.length ≤ 140737488355328 := by
  obtain ⟨fuel, hf0⟩ := h
  obtain ⟨cs, rfl, _⟩ := hv
  obtain ⟨e, items, data, he, r⟩ := ev_cells (cs := cs.toList) hf0 hz
  refine ⟨e, items, data, ?_, r⟩
  rw [← he]
end
set_option maxRecDepth 100000 in
theorem okWide_event {W : World} {base : Nat} {v : Value} (h : Value.okWide Tryz.prog W .any base 36 v) : ∃ cs, v = .agg cs ∧ cs.size = Tryz.prog.cellsOf 36 := okWide_struct Tryz.underlying36 h
end Go.Proofs.YtfeppannfcbakaaGreatDoor

namespace Go.Proofs.YtfeppannfcbakaaGreatDoor
open Go.ChangeShapes Go.WideShapes Go.ChangeAt Go.RowKit Go.Deep Go.Joins
set_option linter.unusedVariables false
section
variable {H : Type} {enc : TypeId × Value → H} {W : World}
set_option maxRecDepth 100000 in
theorem ev_cells2 {fuel : Nat} {cs : List Value} {x : DataW H × List MemPlace} (h : DataW.trod enc Tryz.prog W 0 (fun _ => true) true fuel 36 cs = some x) (hz : ∀ n ∈ x.1.weights Tryz.prog 36, n ≤ reachBytes) : ∃ (e : Ev) (items : Ws) (data : List UInt8), cs = e.cells ∧ e.Rg ∧ items.length = e.rik ∧ data.length = e.dik ∧ Rt W (.slice e.ria e.rik e.ric) items ∧ BRd W (.slice e.dia e.dik e.dic) data ∧ items.length * 16 ≤ 140737488355328 ∧ data.length ≤ 140737488355328 := by
  obtain ⟨xs, f, _, rfl, hl, hlen, hf⟩ := DataW.trod_struct Tryz.underlying36 h
  have hlen : xs.length = 12 := hlen
  rw [Tryz.cells36] at hl
  obtain ⟨y0, hy0⟩ := nth hlen (i := 0) (by omega)
  have g0 : DataW.trod enc Tryz.prog W 0 (fun _ => true) true f 3 ((cs.drop 0).take (Tryz.prog.cellsOf 3)) = some y0 := (hf 0 _ rfl).trans hy0
  rw [Tryz.cells3] at g0
  obtain ⟨x0, e0, _, w0⟩ := DataW.trod_int Tryz.underlying3 g0
  have b0 := i64_wf w0
  obtain ⟨y1, hy1⟩ := nth hlen (i := 1) (by omega)
  have g1 : DataW.trod enc Tryz.prog W 0 (fun _ => true) true f 3 ((cs.drop 1).take (Tryz.prog.cellsOf 3)) = some y1 := (hf 1 _ rfl).trans hy1
  rw [Tryz.cells3] at g1
  obtain ⟨x1, e1, _, w1⟩ := DataW.trod_int Tryz.underlying3 g1
  have b1 := i64_wf w1
  obtain ⟨y2, hy2⟩ := nth hlen (i := 2) (by omega)
  have g2 : DataW.trod enc Tryz.prog W 0 (fun _ => true) true f 3 ((cs.drop 2).take (Tryz.prog.cellsOf 3)) = some y2 := (hf 2 _ rfl).trans hy2
  rw [Tryz.cells3] at g2
  obtain ⟨x2, e2, _, w2⟩ := DataW.trod_int Tryz.underlying3 g2
  have b2 := i64_wf w2
  obtain ⟨y3, hy3⟩ := nth hlen (i := 3) (by omega)
  have g3 : DataW.trod enc Tryz.prog W 0 (fun _ => true) true f 3 ((cs.drop 3).take (Tryz.prog.cellsOf 3)) = some y3 := (hf 3 _ rfl).trans hy3
  rw [Tryz.cells3] at g3
  obtain ⟨x3, e3, _, w3⟩ := DataW.trod_int Tryz.underlying3 g3
  have b3 := i64_wf w3
  obtain ⟨y4, hy4⟩ := nth hlen (i := 4) (by omega)
  have g4 : DataW.trod enc Tryz.prog W 0 (fun _ => true) true f 3 ((cs.drop 4).take (Tryz.prog.cellsOf 3)) = some y4 := (hf 4 _ rfl).trans hy4
  rw [Tryz.cells3] at g4
  obtain ⟨x4, e4, _, w4⟩ := DataW.trod_int Tryz.underlying3 g4
  have b4 := i64_wf w4
  obtain ⟨y5, hy5⟩ := nth hlen (i := 5) (by omega)
  have g5 : DataW.trod enc Tryz.prog W 0 (fun _ => true) true f 22 ((cs.drop 5).take (Tryz.prog.cellsOf 22)) = some y5 := (hf 5 _ rfl).trans hy5
  rw [Tryz.cells22] at g5
  obtain ⟨x5, e5, _, w5⟩ := DataW.trod_int Tryz.underlying22 g5
  have b5 := i64_wf w5
  obtain ⟨y6, hy6⟩ := nth hlen (i := 6) (by omega)
  have g6 : DataW.trod enc Tryz.prog W 0 (fun _ => true) true f 4 ((cs.drop 6).take (Tryz.prog.cellsOf 4)) = some y6 := (hf 6 _ rfl).trans hy6
  rw [Tryz.cells4] at g6
  obtain ⟨x6, e6, _⟩ := DataW.trod_bool Tryz.underlying4 g6
  obtain ⟨y7, hy7⟩ := nth hlen (i := 7) (by omega)
  have g7 : DataW.trod enc Tryz.prog W 0 (fun _ => true) true f 24 ((cs.drop 7).take (Tryz.prog.cellsOf 24)) = some y7 := (hf 7 _ rfl).trans hy7
  rw [Tryz.cells24] at g7
  obtain ⟨k7, nm7, tx7, n7, m7, e7⟩ := op_cells g7
  obtain ⟨y8, hy8⟩ := nth hlen (i := 8) (by omega)
  have g8 : DataW.trod enc Tryz.prog W 0 (fun _ => true) true f 26 ((cs.drop 12).take (Tryz.prog.cellsOf 26)) = some y8 := (hf 8 _ rfl).trans hy8
  rw [Tryz.cells26] at g8
  obtain ⟨c8, q8, k8, nm8, tx8, n8, m8, e8, u8, v8⟩ := entry_cells g8
  obtain ⟨y9, hy9⟩ := nth hlen (i := 9) (by omega)
  have g9 : DataW.trod enc Tryz.prog W 0 (fun _ => true) true f 29 ((cs.drop 19).take (Tryz.prog.cellsOf 29)) = some y9 := (hf 9 _ rfl).trans hy9
  rw [Tryz.cells29] at g9
  have hz9 : ∀ n ∈ y9.1.weights Tryz.prog 29, n ≤ reachBytes := fun n hn => hz n (by
    simp only [DataW.weights, Tryz.underlying36]
    exact DataW.weights_mem_each (j := 9) (t := 29) rfl (by simp [hy9]) n hn)
  obtain ⟨c9, n9, s9, l9, e9, ht, hl2⟩ := res_cells g9 hz9
  obtain ⟨y10, hy10⟩ := nth hlen (i := 10) (by omega)
  have g10 : DataW.trod enc Tryz.prog W 0 (fun _ => true) true f 31 ((cs.drop 22).take (Tryz.prog.cellsOf 31)) = some y10 := (hf 10 _ rfl).trans hy10
  rw [Tryz.cells31] at g10
  obtain ⟨z0, z1, z2, z3, z4, z5, z6, z7, e10, f0, f1, f2, f3, f4, f5, f6, f7⟩ := look_cells g10
  obtain ⟨y11, hy11⟩ := nth hlen (i := 11) (by omega)
  have g11 : DataW.trod enc Tryz.prog W 0 (fun _ => true) true f 34 ((cs.drop 30).take (Tryz.prog.cellsOf 34)) = some y11 := (hf 11 _ rfl).trans hy11
  rw [Tryz.cells34] at g11
  have hz11 : ∀ n ∈ y11.1.weights Tryz.prog 34, n ≤ reachBytes := fun n hn => hz n (by
    simp only [DataW.weights, Tryz.underlying36]
    exact DataW.weights_mem_each (j := 11) (t := 34) rfl (by simp [hy11]) n hn)
  obtain ⟨c11, q11, da, dc, bs, e11, u11, v11, hr, hb⟩ := sheet_cells g11 hz11
  have j11 : cs.drop 30 = (cs.drop 30).take 3 := (List.take_of_length_le (by rw [List.length_drop]; omega)).symm
  have j10 : cs.drop 22 = (cs.drop 22).take 8 ++ ((cs.drop 30).take 3) := (take_drop_step cs 22 8).trans (congrArg ((cs.drop 22).take 8 ++ ·) j11)
  have j9 : cs.drop 19 = (cs.drop 19).take 3 ++ ((cs.drop 22).take 8 ++ ((cs.drop 30).take 3)) := (take_drop_step cs 19 3).trans (congrArg ((cs.drop 19).take 3 ++ ·) j10)
  have j8 : cs.drop 12 = (cs.drop 12).take 7 ++ ((cs.drop 19).take 3 ++ ((cs.drop 22).take 8 ++ ((cs.drop 30).take 3))) := (take_drop_step cs 12 7).trans (congrArg ((cs.drop 12).take 7 ++ ·) j9)
  have j7 : cs.drop 7 = (cs.drop 7).take 5 ++ ((cs.drop 12).take 7 ++ ((cs.drop 19).take 3 ++ ((cs.drop 22).take 8 ++ ((cs.drop 30).take 3)))) := (take_drop_step cs 7 5).trans (congrArg ((cs.drop 7).take 5 ++ ·) j8)
  have j6 : cs.drop 6 = (cs.drop 6).take 1 ++ ((cs.drop 7).take 5 ++ ((cs.drop 12).take 7 ++ ((cs.drop 19).take 3 ++ ((cs.drop 22).take 8 ++ ((cs.drop 30).take 3))))) := (take_drop_step cs 6 1).trans (congrArg ((cs.drop 6).take 1 ++ ·) j7)
  have j5 : cs.drop 5 = (cs.drop 5).take 1 ++ ((cs.drop 6).take 1 ++ ((cs.drop 7).take 5 ++ ((cs.drop 12).take 7 ++ ((cs.drop 19).take 3 ++ ((cs.drop 22).take 8 ++ ((cs.drop 30).take 3)))))) := (take_drop_step cs 5 1).trans (congrArg ((cs.drop 5).take 1 ++ ·) j6)
  have j4 : cs.drop 4 = (cs.drop 4).take 1 ++ ((cs.drop 5).take 1 ++ ((cs.drop 6).take 1 ++ ((cs.drop 7).take 5 ++ ((cs.drop 12).take 7 ++ ((cs.drop 19).take 3 ++ ((cs.drop 22).take 8 ++ ((cs.drop 30).take 3))))))) := (take_drop_step cs 4 1).trans (congrArg ((cs.drop 4).take 1 ++ ·) j5)
  have j3 : cs.drop 3 = (cs.drop 3).take 1 ++ ((cs.drop 4).take 1 ++ ((cs.drop 5).take 1 ++ ((cs.drop 6).take 1 ++ ((cs.drop 7).take 5 ++ ((cs.drop 12).take 7 ++ ((cs.drop 19).take 3 ++ ((cs.drop 22).take 8 ++ ((cs.drop 30).take 3)))))))) := (take_drop_step cs 3 1).trans (congrArg ((cs.drop 3).take 1 ++ ·) j4)
  have j2 : cs.drop 2 = (cs.drop 2).take 1 ++ ((cs.drop 3).take 1 ++ ((cs.drop 4).take 1 ++ ((cs.drop 5).take 1 ++ ((cs.drop 6).take 1 ++ ((cs.drop 7).take 5 ++ ((cs.drop 12).take 7 ++ ((cs.drop 19).take 3 ++ ((cs.drop 22).take 8 ++ ((cs.drop 30).take 3))))))))) := (take_drop_step cs 2 1).trans (congrArg ((cs.drop 2).take 1 ++ ·) j3)
  have j1 : cs.drop 1 = (cs.drop 1).take 1 ++ ((cs.drop 2).take 1 ++ ((cs.drop 3).take 1 ++ ((cs.drop 4).take 1 ++ ((cs.drop 5).take 1 ++ ((cs.drop 6).take 1 ++ ((cs.drop 7).take 5 ++ ((cs.drop 12).take 7 ++ ((cs.drop 19).take 3 ++ ((cs.drop 22).take 8 ++ ((cs.drop 30).take 3)))))))))) := (take_drop_step cs 1 1).trans (congrArg ((cs.drop 1).take 1 ++ ·) j2)
  have j0 : cs.drop 0 = (cs.drop 0).take 1 ++ ((cs.drop 1).take 1 ++ ((cs.drop 2).take 1 ++ ((cs.drop 3).take 1 ++ ((cs.drop 4).take 1 ++ ((cs.drop 5).take 1 ++ ((cs.drop 6).take 1 ++ ((cs.drop 7).take 5 ++ ((cs.drop 12).take 7 ++ ((cs.drop 19).take 3 ++ ((cs.drop 22).take 8 ++ ((cs.drop 30).take 3))))))))))) := (take_drop_step cs 0 1).trans (congrArg ((cs.drop 0).take 1 ++ ·) j1)
  have hcs : cs = (cs.drop 0).take 1 ++ ((cs.drop 1).take 1 ++ ((cs.drop 2).take 1 ++ ((cs.drop 3).take 1 ++ ((cs.drop 4).take 1 ++ ((cs.drop 5).take 1 ++ ((cs.drop 6).take 1 ++ ((cs.drop 7).take 5 ++ ((cs.drop 12).take 7 ++ ((cs.drop 19).take 3 ++ ((cs.drop 22).take 8 ++ ((cs.drop 30).take 3))))))))))) := List.drop_zero.symm.trans j0
  obtain ⟨ra, rc, rfl⟩ := ht.form
  rw [e0, e1, e2, e3, e4, e5, e6, e7, e8, e9, e10, e11] at hcs
  have hr2 := reach_num
  refine ⟨⟨x0, x1, x2, x3, x4, x5, x6, k7, nm7.data.toList, tx7.data.toList, n7, m7, c8, q8, k8, nm8.data.toList, tx8.data.toList, n8, m8, c9, n9, ra, l9.length, rc, z0, z1, z2, z3, z4, z5, z6, z7, c11, q11, da, bs.length, dc⟩, l9, bs, ?_, ?_, rfl, rfl, ht, hr, by omega, by omega⟩
  · rw [hcs]
    rfl
  · constructor <;> first | assumption | (simp only; omega)
set_option maxRecDepth 100000 in
/-- An event that came in. -/
theorem open_event2 {v : Value} {d : DataW H} {p : List MemPlace} (h : DataW.Trod enc Tryz.prog W 0 (fun _ => true) true 36 v d p) (hv : ∃ cs, v = .agg cs ∧ cs.size = Tryz.prog.cellsOf 36) (hz : ∀ n ∈ d.weights Tryz.prog 36, n ≤ reachBytes) :
    ∃ (e : Ev) (items : Ws) (data : List UInt8), v = .agg e.cells.toArray ∧ e.Rg ∧ items.length = e.rik ∧ data.length = e.dik ∧ Rt W (.slice e.ria e.rik e.ric) items ∧ BRd W (.slice e.dia e.dik e.dic) data ∧ items.length * 16 ≤ 140737488355328 ∧ data.length ≤ 140737488355328 := by
  obtain ⟨fuel, hf0⟩ := h
  obtain ⟨cs, rfl, _⟩ := hv
  obtain ⟨e, items, data, he, r⟩ := ev_cells2 (cs := cs.toList) hf0 hz
  refine ⟨e, items, data, ?_, r⟩
  rw [← he]
end
end Go.Proofs.YtfeppannfcbakaaGreatDoor

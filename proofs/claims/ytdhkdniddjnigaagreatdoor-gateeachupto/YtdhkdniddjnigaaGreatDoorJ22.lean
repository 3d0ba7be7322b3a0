import Derived.Test.YtdhkdniddjnigaaGreatDoorJ18
import Derived.Shelf.Vars
import Derived.Test.YtdhkdniddjnigaaGreatDoorCards
import Derived.Test.YtdhkdniddjnigaaGreatDoorTie
import Derived.ProofKit
import Derived.OpenShut
import Derived.SizedLaws
import Derived.Deep.DeepHandedRow
import Derived.Deep.Slices
import Derived.Lib.LaidTab
import Derived.Lib.SmallJoins
import Derived.Stop.LaidErr
import Derived.Deep.Strs
import Derived.Test.YtdhkdniddjnigaaGreatDoorJ19
import Derived.Test.YtdhkdniddjnigaaGreatDoorJ10
namespace Go.Proofs.YtdhkdniddjnigaaGreatDoor
open Go.ChangeShapes Go.WideShapes Go.ChangeAt Go.RowKit Go.Deep Go.Joins
set_option linter.unusedVariables false

theorem Tryz.own : ownKnob Tryz.prog.godebug = none := by kernel_rfl
theorem Tryz.laidOut : laidOutB Tryz.prog = true := by kernel_rfl
theorem Tryz.gES : Tryz.prog.globalNamed "strconv.ErrSyntax" = some 8 := by kernel_rfl
theorem Tryz.gEST : (Tryz.prog.globals[8]?).map (·.type) = some 190 := by kernel_rfl
theorem Tryz.gER : Tryz.prog.globalNamed "strconv.ErrRange" = some 9 := by kernel_rfl
theorem Tryz.gERT : (Tryz.prog.globals[9]?).map (·.type) = some 190 := by kernel_rfl
theorem Tryz.gPW : Tryz.prog.globalNamed "internal/strconv.uint64pow10" = some 4 := by kernel_rfl
theorem Tryz.gPWT : (Tryz.prog.globals[4]?).map (·.type) = some 248 := by kernel_rfl
theorem Tryz.cellsES : Tryz.prog.cellsOf 279 = 1 := by kernel_rfl
theorem Tryz.cells9 : Tryz.prog.cellsOf 9 = 1 := by kernel_rfl
theorem Tryz.star : "*" ++ "errors.errorString" = "*errors.errorString" := by decide
theorem Tryz.rowES (u : TypeId) (h : Tryz.prog.typeName? 3 u = some "*errors.errorString") : u = 277 :=
  typeName_ptr_named (nm := "errors.errorString") (by rw [Tryz.star]; kernel_rfl) (by kernel_rfl) (by decide) u (by rw [Tryz.star]; exact h)

/-- What the rows' list gives. -/
theorem vars_of_laid {a b : String × DataW Unit} {r : List (String × DataW Unit)} {W : World} (h : laidMet Tryz.prog (a :: b :: ("internal/strconv.uint64pow10", Rows.laid_internal_strconv_uint64pow10) :: ("strconv.ErrRange", Rows.laid_strconv_ErrRange) :: ("strconv.ErrSyntax", Rows.laid_strconv_ErrSyntax) :: r) W) : Vars W := by
  have h1 := h.tail.tail
  obtain ⟨a1, s1, v1, _⟩ := laid_sentinel h1.tail Tryz.gER Tryz.gERT Tryz.underlying190 Tryz.rowES Tryz.underlying277 Tryz.underlying279 rfl rfl Tryz.underlying9 Tryz.cellsES Tryz.cells9
  obtain ⟨a2, s2, v2, _⟩ := laid_sentinel h1.tail.tail Tryz.gES Tryz.gEST Tryz.underlying190 Tryz.rowES Tryz.underlying277 Tryz.underlying279 rfl rfl Tryz.underlying9 Tryz.cellsES Tryz.cells9
  exact ⟨⟨_, _, v2⟩, ⟨_, _, v1⟩, Lib.tabIs_of_head (n := 20) (e := 222) Tryz.gPW Tryz.gPWT Tryz.underlying248 Tryz.underlying222 (by kernel_rfl) (by kernel_rfl) h1⟩

def deB32 : List Int := [0, 1, 28, 2, 29, 14, 24, 3, 30, 22, 20, 15, 25, 17, 4, 8, 31, 27, 13, 23, 21, 19, 16, 7, 26, 12, 18, 6, 11, 5, 10, 9]
def deB64 : List Int := [0, 1, 56, 2, 57, 49, 28, 3, 61, 58, 42, 50, 38, 29, 17, 4, 62, 47, 59, 36, 45, 43, 51, 22, 53, 39, 33, 30, 24, 18, 12, 5, 63, 55, 48, 27, 60, 41, 37, 16, 46, 35, 44, 21, 52, 32, 23, 11, 54, 26, 40, 15, 34, 20, 31, 10, 25, 14, 19, 9, 13, 8, 7, 6]
noncomputable def low : Nat := (World.holding Tryz.prog default ⟨#[], #[], []⟩).heap.size
/-- A world for the witness. -/
noncomputable def laidWorld (os : Os) : World :=
  let w0 := World.holding Tryz.prog os ⟨#[.cells #[.string ⟨#[105, 110, 118, 97, 108, 105, 100, 32, 115, 121, 110, 116, 97, 120]⟩] 279, .cells #[.string ⟨#[118, 97, 108, 117, 101, 32, 111, 117, 116, 32, 111, 102, 32, 114, 97, 110, 103, 101]⟩] 279], #[], []⟩
  { w0 with heap := (((((((w0.heap.modify 8 fun
      | .cells _ t frozen => .cells #[.iface 277 (.pointer (some ⟨low, 0, none⟩))] t frozen
      | o => o).modify 9 fun
      | .cells _ t frozen => .cells #[.iface 277 (.pointer (some ⟨low + 1, 0, none⟩))] t frozen
      | o => o).modify 4 fun
      | .cells _ t frozen => .cells (Lib.pow10Tab.map fun z : Int => Value.int .u64 z).toArray t frozen
      | o => o).modify 6 fun
      | .cells _ t frozen => .cells (deB32.map fun z : Int => Value.int .u8 z).toArray t frozen
      | o => o).modify 7 fun
      | .cells _ t frozen => .cells (deB64.map fun z : Int => Value.int .u8 z).toArray t frozen
      | o => o).modify 3 fun
      | .cells _ t frozen => .cells (formN.map fun n : Int => Value.int .i64 n).toArray t frozen
      | o => o).modify 5 fun
      | .cells _ t frozen => .cells (wfN.flatMap fun p => [Value.string ⟨p.1.toArray⟩, Value.string ⟨p.2.toArray⟩]).toArray t frozen
      | o => o) }
end Go.Proofs.YtdhkdniddjnigaaGreatDoor

namespace Go.Proofs.YtdhkdniddjnigaaGreatDoor
open Go.ChangeShapes Go.WideShapes Go.ChangeAt Go.RowKit Go.Deep Go.Joins
set_option linter.unusedVariables false

theorem Tryz.gTab : Tryz.prog.globalNamed "flotilla/shelf.forms" = some 3 := by kernel_rfl
theorem Tryz.gTabType : (Tryz.prog.globals[3]?).map (·.type) = some 244 := by kernel_rfl
theorem Tryz.cells244 : Tryz.prog.cellsOf 244 = 72 := by kernel_rfl
theorem Tryz.cells243 : Tryz.prog.cellsOf 243 = 8 := by kernel_rfl
theorem Tryz.cells241 : Tryz.prog.cellsOf 241 = 2 := by kernel_rfl
theorem Tryz.cells3 : Tryz.prog.cellsOf 3 = 1 := by kernel_rfl
theorem Tryz.und244 : Tryz.prog.underlying 244 = some (.array 9 243) := by kernel_rfl

theorem map_at {α β : Type} {f : α → β} {xs : List α} {ys : List β} (h : xs.map f = ys) {i : Nat} {d : β} (hd : ys[i]? = some d) : ∃ y, xs[i]? = some y ∧ f y = d := by
  rw [← h, List.getElem?_map, Option.map_eq_some_iff] at hd
  exact hd

section
variable {H : Type} {enc : TypeId × Value → H} {W : World} {base : Nat} {sp : Nat → Bool} {held : Bool} {fuel : Nat} {cs : List Value} {p : List MemPlace}
def spanD (a b : Int) : DataW H := .agg [.lit (.int .i64 a), .lit (.int .i64 b)]
theorem int_cells {n : Nat} {x : DataW H × List MemPlace} {a : Int} (h : DataW.trod enc Tryz.prog W base sp held n 3 cs = some x) (hx : x.1 = .lit (.int .i64 a)) : cs = [.int .i64 a] := by
  obtain ⟨z, e, r, _⟩ := DataW.trod_int Tryz.underlying3 h
  subst r
  simp only [DataW.lit.injEq, Lit.int.injEq, true_and] at hx
  subst hx
  exact e
theorem list2 {l : List Value} {a b : Value} (hl : l.length = 2) (h0 : (l.drop 0).take 1 = [a]) (h1 : (l.drop 1).take 1 = [b]) : l = [a, b] := by
  match l, hl with
  | [x, y], _ => simp at h0 h1; simp [h0, h1]
theorem list8 {l : List Value} {a b c d e f g h : Value} (hl : l.length = 8) (h0 : (l.drop 0).take 2 = [a, b]) (h1 : (l.drop 2).take 2 = [c, d]) (h2 : (l.drop 4).take 2 = [e, f]) (h3 : (l.drop 6).take 2 = [g, h]) : l = [a, b, c, d, e, f, g, h] := by
  match l, hl with
  | [x0, x1, x2, x3, x4, x5, x6, x7], _ => simp at h0 h1 h2 h3; simp [h0, h1, h2, h3]
set_option maxRecDepth 100000 in
theorem span_cells {x : DataW H × List MemPlace} {a b : Int} (h : DataW.trod enc Tryz.prog W base sp held fuel 241 cs = some x) (hx : x.1 = spanD a b) : cs = [.int .i64 a, .int .i64 b] := by
  obtain ⟨xs, n, _, hx', hl, hlen, hf⟩ := DataW.trod_struct Tryz.underlying241 h
  subst hx'
  have hx : xs.map (·.1) = [.lit (.int .i64 a), .lit (.int .i64 b)] := by simp only [spanD] at hx; injection hx
  obtain ⟨y0, hy0, e0⟩ := map_at hx (i := 0) rfl
  obtain ⟨y1, hy1, e1⟩ := map_at hx (i := 1) rfl
  have g0 : DataW.trod enc Tryz.prog W base sp held n 3 ((cs.drop 0).take (Tryz.prog.cellsOf 3)) = some y0 := (hf 0 _ rfl).trans hy0
  have g1 : DataW.trod enc Tryz.prog W base sp held n 3 ((cs.drop 1).take (Tryz.prog.cellsOf 3)) = some y1 := (hf 1 _ rfl).trans hy1
  rw [Tryz.cells3] at g0 g1
  rw [Tryz.cells241] at hl
  exact list2 hl (int_cells g0 e0) (int_cells g1 e1)
set_option maxRecDepth 100000 in
theorem form_cells {x : DataW H × List MemPlace} {a0 a1 a2 a3 a4 a5 a6 a7 : Int} (h : DataW.trod enc Tryz.prog W base sp held fuel 243 cs = some x) (hx : x.1 = .agg [spanD a0 a1, spanD a2 a3, spanD a4 a5, spanD a6 a7]) : cs = [.int .i64 a0, .int .i64 a1, .int .i64 a2, .int .i64 a3, .int .i64 a4, .int .i64 a5, .int .i64 a6, .int .i64 a7] := by
  obtain ⟨xs, n, _, hx', hl, hlen, hf⟩ := DataW.trod_struct Tryz.underlying243 h
  subst hx'
  have hx : xs.map (·.1) = [spanD a0 a1, spanD a2 a3, spanD a4 a5, spanD a6 a7] := by injection hx
  obtain ⟨y0, hy0, e0⟩ := map_at hx (i := 0) rfl
  obtain ⟨y1, hy1, e1⟩ := map_at hx (i := 1) rfl
  obtain ⟨y2, hy2, e2⟩ := map_at hx (i := 2) rfl
  obtain ⟨y3, hy3, e3⟩ := map_at hx (i := 3) rfl
  have g0 : DataW.trod enc Tryz.prog W base sp held n 241 ((cs.drop 0).take (Tryz.prog.cellsOf 241)) = some y0 := (hf 0 _ rfl).trans hy0
  have g1 : DataW.trod enc Tryz.prog W base sp held n 241 ((cs.drop 2).take (Tryz.prog.cellsOf 241)) = some y1 := (hf 1 _ rfl).trans hy1
  have g2 : DataW.trod enc Tryz.prog W base sp held n 241 ((cs.drop 4).take (Tryz.prog.cellsOf 241)) = some y2 := (hf 2 _ rfl).trans hy2
  have g3 : DataW.trod enc Tryz.prog W base sp held n 241 ((cs.drop 6).take (Tryz.prog.cellsOf 241)) = some y3 := (hf 3 _ rfl).trans hy3
  rw [Tryz.cells241] at g0 g1 g2 g3
  rw [Tryz.cells243] at hl
  exact list8 hl (span_cells g0 e0) (span_cells g1 e1) (span_cells g2 e2) (span_cells g3 e3)
end

set_option maxRecDepth 100000 in
/-- What the rows' list gives. -/
theorem tab_of_laid {a b c d e : String × DataW Unit} {r : List (String × DataW Unit)} {W : World} (h : laidMet Tryz.prog (a :: b :: c :: d :: e :: ("flotilla/shelf.forms", Rows.laid_flotilla_shelf_forms) :: r) W) : Tab W := by
  obtain ⟨ps, ⟨g', t', cs, fuel, p, q, hg', ht', hvar, hd, _, _⟩, _⟩ := h.tail.tail.tail.tail.tail
  obtain rfl := Option.some.inj (Tryz.gTab.symm.trans hg')
  obtain rfl := Option.some.inj (Tryz.gTabType.symm.trans ht')
  obtain ⟨xs, m, _, hx, hl, hlen, hf⟩ := DataW.trod_array Tryz.und244 hd
  rw [Tryz.cells244] at hl
  rw [Tryz.cells243] at hf
  have hxs : xs.map (·.1) = [.agg [spanD 0 0, spanD 0 0, spanD 0 0, spanD 0 0], .agg [spanD 1 16, spanD 0 0, spanD 0 0, spanD 0 0], .agg [spanD 1 16, spanD 0 0, spanD 0 0, spanD 0 0], .agg [spanD 1 16, spanD 0 64, spanD 0 0, spanD 0 0], .agg [spanD 1 16, spanD 0 0, spanD 0 1099511627776, spanD 0 0], .agg [spanD 1 16, spanD 1 16, spanD 0 0, spanD 0 0], .agg [spanD 1 16, spanD 0 0, spanD 0 1099511627776, spanD 1 8], .agg [spanD 1 16, spanD 0 0, spanD 0 0, spanD 0 0], .agg [spanD 0 0, spanD 0 0, spanD 0 0, spanD 0 0]] := by
    have := congrArg Prod.fst hx
    have e : (.agg (xs.map (·.1)) : DataW Unit) = Rows.laid_flotilla_shelf_forms := this.symm
    injection e
  obtain ⟨y0, hy0, e0⟩ := map_at hxs (i := 0) rfl
  have c0 : (cs.toList.drop (0 * 8)).take 8 = [Value.int .i64 0, .int .i64 0, .int .i64 0, .int .i64 0, .int .i64 0, .int .i64 0, .int .i64 0, .int .i64 0] := form_cells ((hf 0 (by omega)).trans hy0) e0
  obtain ⟨y1, hy1, e1⟩ := map_at hxs (i := 1) rfl
  have c1 : (cs.toList.drop (1 * 8)).take 8 = [Value.int .i64 1, .int .i64 16, .int .i64 0, .int .i64 0, .int .i64 0, .int .i64 0, .int .i64 0, .int .i64 0] := form_cells ((hf 1 (by omega)).trans hy1) e1
  obtain ⟨y2, hy2, e2⟩ := map_at hxs (i := 2) rfl
  have c2 : (cs.toList.drop (2 * 8)).take 8 = [Value.int .i64 1, .int .i64 16, .int .i64 0, .int .i64 0, .int .i64 0, .int .i64 0, .int .i64 0, .int .i64 0] := form_cells ((hf 2 (by omega)).trans hy2) e2
  obtain ⟨y3, hy3, e3⟩ := map_at hxs (i := 3) rfl
  have c3 : (cs.toList.drop (3 * 8)).take 8 = [Value.int .i64 1, .int .i64 16, .int .i64 0, .int .i64 64, .int .i64 0, .int .i64 0, .int .i64 0, .int .i64 0] := form_cells ((hf 3 (by omega)).trans hy3) e3
  obtain ⟨y4, hy4, e4⟩ := map_at hxs (i := 4) rfl
  have c4 : (cs.toList.drop (4 * 8)).take 8 = [Value.int .i64 1, .int .i64 16, .int .i64 0, .int .i64 0, .int .i64 0, .int .i64 1099511627776, .int .i64 0, .int .i64 0] := form_cells ((hf 4 (by omega)).trans hy4) e4
  obtain ⟨y5, hy5, e5⟩ := map_at hxs (i := 5) rfl
  have c5 : (cs.toList.drop (5 * 8)).take 8 = [Value.int .i64 1, .int .i64 16, .int .i64 1, .int .i64 16, .int .i64 0, .int .i64 0, .int .i64 0, .int .i64 0] := form_cells ((hf 5 (by omega)).trans hy5) e5
  obtain ⟨y6, hy6, e6⟩ := map_at hxs (i := 6) rfl
  have c6 : (cs.toList.drop (6 * 8)).take 8 = [Value.int .i64 1, .int .i64 16, .int .i64 0, .int .i64 0, .int .i64 0, .int .i64 1099511627776, .int .i64 1, .int .i64 8] := form_cells ((hf 6 (by omega)).trans hy6) e6
  obtain ⟨y7, hy7, e7⟩ := map_at hxs (i := 7) rfl
  have c7 : (cs.toList.drop (7 * 8)).take 8 = [Value.int .i64 1, .int .i64 16, .int .i64 0, .int .i64 0, .int .i64 0, .int .i64 0, .int .i64 0, .int .i64 0] := form_cells ((hf 7 (by omega)).trans hy7) e7
  obtain ⟨y8, hy8, e8⟩ := map_at hxs (i := 8) rfl
  have c8 : (cs.toList.drop (8 * 8)).take 8 = [Value.int .i64 0, .int .i64 0, .int .i64 0, .int .i64 0, .int .i64 0, .int .i64 0, .int .i64 0, .int .i64 0] := form_cells ((hf 8 (by omega)).trans hy8) e8
  have hall : ∀ i, i < 72 → cs.toList[i]? = some (.int .i64 (formN.getD i 0)) := by
    intro i hi
    have hc : ∀ r, r < 9 → (cs.toList.drop (r * 8)).take 8 = ((formN.drop (r * 8)).take 8).map (Value.int .i64) := by
      intro r hr
      obtain rfl | rfl | rfl | rfl | rfl | rfl | rfl | rfl | rfl : r = 0 ∨ r = 1 ∨ r = 2 ∨ r = 3 ∨ r = 4 ∨ r = 5 ∨ r = 6 ∨ r = 7 ∨ r = 8 := by omega
      · exact c0
      · exact c1
      · exact c2
      · exact c3
      · exact c4
      · exact c5
      · exact c6
      · exact c7
      · exact c8
    have h1 := congrArg (fun l => l[i % 8]?) (hc (i / 8) (by omega))
    simp only [List.getElem?_take, List.getElem?_drop, List.getElem?_map] at h1
    rw [if_pos (by omega), if_pos (by omega)] at h1
    have e : i / 8 * 8 + i % 8 = i := by omega
    rw [e] at h1
    rw [h1, List.getD_eq_getElem?_getD, List.getElem?_eq_getElem (by simpa [formN] using hi)]
    rfl
  have hcell : ∀ i, i < 72 → W.cell? ⟨3, i, none⟩ = some (.int .i64 (formN.getD i 0)) := by
    intro i hi
    have := World.var?_cell Tryz.gTab hvar i
    rw [this]
    simpa using hall i hi
  exact ⟨World.block_lt_of_cell? W _ (hcell 0 (by omega)), hcell⟩

theorem str_cells {H : Type} {enc : TypeId × Value → H} {W : World} {base : Nat} {sp : Nat → Bool} {held : Bool} {n : Nat} {cs : List Value} {x : DataW H × List MemPlace} {l : List UInt8} (h : DataW.trod enc Tryz.prog W base sp held n 9 cs = some x) (hx : x.1 = .lit (.string l)) : cs = [.string ⟨l.toArray⟩] := by
  obtain ⟨s, e, r, _⟩ := DataW.trod_string Tryz.underlying9 h
  subst r
  simp only [DataW.lit.injEq, Lit.string.injEq] at hx
  subst hx
  simpa using e
theorem Tryz.gWf : Tryz.prog.globalNamed "flotilla/words.forms" = some 5 := by kernel_rfl
theorem Tryz.gWfType : (Tryz.prog.globals[5]?).map (·.type) = some 256 := by kernel_rfl
theorem Tryz.cells256 : Tryz.prog.cellsOf 256 = 18 := by kernel_rfl
theorem Tryz.cells255 : Tryz.prog.cellsOf 255 = 2 := by kernel_rfl
theorem Tryz.cells42 : Tryz.prog.cellsOf 42 = 5 := by kernel_rfl
theorem Tryz.bytes9 : Tryz.prog.bytesOf 9 = 16 := by kernel_rfl
theorem Tryz.und256 : Tryz.prog.underlying 256 = some (.array 9 255) := by kernel_rfl
theorem nth {α : Type} {l : List α} {n i : Nat} (hl : l.length = n) (hi : i < n) : ∃ y, l[i]? = some y := ⟨_, List.getElem?_eq_getElem (by omega)⟩
theorem i64_wf {n : Int} (h : (Lit.int .i64 n).wf = true) : -9223372036854775808 ≤ n ∧ n < 9223372036854775808 := by
  have : -9223372036854775808 ≤ n ∧ n ≤ 9223372036854775807 := by simpa [Lit.wf, IntKind.min, IntKind.max, IntKind.signed, IntKind.bits] using h
  omega
theorem list5 {l : List Value} {a b c d e : Value} (hl : l.length = 5) (h0 : (l.drop 0).take 1 = [a]) (h1 : (l.drop 1).take 1 = [b]) (h2 : (l.drop 2).take 1 = [c]) (h3 : (l.drop 3).take 1 = [d]) (h4 : (l.drop 4).take 1 = [e]) : l = [a, b, c, d, e] := by
  match l, hl with
  | [x0, x1, x2, x3, x4], _ => simp at h0 h1 h2 h3 h4; simp [h0, h1, h2, h3, h4]
section
variable {H : Type} {enc : TypeId × Value → H} {W : World} {base : Nat} {sp : Nat → Bool} {held : Bool} {fuel : Nat} {cs : List Value} {x : DataW H × List MemPlace}
set_option maxRecDepth 100000 in
theorem pair_cells {a b : List UInt8} (h : DataW.trod enc Tryz.prog W base sp held fuel 255 cs = some x) (hx : x.1 = .agg [.lit (.string a), .lit (.string b)]) : cs = [.string ⟨a.toArray⟩, .string ⟨b.toArray⟩] := by
  obtain ⟨xs, n, _, hx', hl, hlen, hf⟩ := DataW.trod_struct Tryz.underlying255 h
  subst hx'
  have hx : xs.map (·.1) = [.lit (.string a), .lit (.string b)] := by injection hx
  obtain ⟨y0, hy0, e0⟩ := map_at hx (i := 0) rfl
  obtain ⟨y1, hy1, e1⟩ := map_at hx (i := 1) rfl
  have g0 : DataW.trod enc Tryz.prog W base sp held n 9 ((cs.drop 0).take (Tryz.prog.cellsOf 9)) = some y0 := (hf 0 _ rfl).trans hy0
  have g1 : DataW.trod enc Tryz.prog W base sp held n 9 ((cs.drop 1).take (Tryz.prog.cellsOf 9)) = some y1 := (hf 1 _ rfl).trans hy1
  rw [Tryz.cells9] at g0 g1
  rw [Tryz.cells255] at hl
  exact list2 hl (str_cells g0 e0) (str_cells g1 e1)
end
set_option maxRecDepth 100000 in
theorem wf_of_laid {a b c d e f : String × DataW Unit} {r : List (String × DataW Unit)} {W : World} (h : laidMet Tryz.prog (a :: b :: c :: d :: e :: f :: ("flotilla/words.forms", Rows.laid_flotilla_words_forms) :: r) W) : Wf W := by
  obtain ⟨ps, ⟨g', t', cs, fuel, p, q, hg', ht', hvar, hd, _, _⟩, _⟩ := h.tail.tail.tail.tail.tail.tail
  obtain rfl := Option.some.inj (Tryz.gWf.symm.trans hg')
  obtain rfl := Option.some.inj (Tryz.gWfType.symm.trans ht')
  obtain ⟨xs, m, _, hx, hl, hlen, hf⟩ := DataW.trod_array Tryz.und256 hd
  rw [Tryz.cells256] at hl
  rw [Tryz.cells255] at hf
  have hxs : xs.map (·.1) = wfN.map fun q => (.agg [.lit (.string q.1), .lit (.string q.2)] : DataW Unit) := by
    have := congrArg Prod.fst hx
    have e : (.agg (xs.map (·.1)) : DataW Unit) = Rows.laid_flotilla_words_forms := this.symm
    injection e
  have hcell : ∀ i, i < 9 → W.cell? ⟨5, i * 2, none⟩ = some (.string ⟨(nmN i).toArray⟩) ∧ W.cell? ⟨5, i * 2 + 1, none⟩ = some (.string ⟨(ltN i).toArray⟩) := by
    intro i hi
    have hd : (wfN.map fun q => (.agg [.lit (.string q.1), .lit (.string q.2)] : DataW Unit))[i]? = some (.agg [.lit (.string (nmN i)), .lit (.string (ltN i))]) := by
      have hlen : wfN.length = 9 := rfl
      unfold nmN ltN
      rw [List.getElem?_map, List.getD_eq_getElem?_getD, List.getElem?_eq_getElem (by omega)]
      rfl
    obtain ⟨y, hy, e⟩ := map_at hxs hd
    have c := pair_cells ((hf i hi).trans hy) e
    have c0 := congrArg (fun l => l[0]?) c
    have c1 := congrArg (fun l => l[1]?) c
    simp only [List.getElem?_take, List.getElem?_drop] at c0 c1
    rw [if_pos (by omega)] at c0 c1
    refine ⟨?_, ?_⟩
    · rw [World.var?_cell Tryz.gWf hvar (i * 2)]
      simpa using c0
    · rw [World.var?_cell Tryz.gWf hvar (i * 2 + 1)]
      simpa using c1
  exact ⟨World.block_lt_of_cell? W _ (hcell 0 (by omega)).1, hcell⟩
end Go.Proofs.YtdhkdniddjnigaaGreatDoor

namespace Go.Proofs.YtdhkdniddjnigaaGreatDoor
open Go.ChangeShapes Go.WideShapes Go.ChangeAt Go.RowKit Go.Deep Go.Joins
set_option linter.unusedVariables false

theorem Tryz.gCd : Tryz.prog.globalNamed "flotilla/words.codes" = some 1 := by kernel_rfl
theorem Tryz.gCdType : (Tryz.prog.globals[1]?).map (·.type) = some 167 := by kernel_rfl
theorem Tryz.cells167 : Tryz.prog.cellsOf 167 = 5 := by kernel_rfl
theorem Tryz.und167 : Tryz.prog.underlying 167 = some (.array 5 9) := by kernel_rfl
set_option maxRecDepth 100000 in
theorem cd_of_laid {a b c d e f g k : String × DataW Unit} {r : List (String × DataW Unit)} {W : World} (h : laidMet Tryz.prog (a :: b :: c :: d :: e :: f :: g :: k :: ("flotilla/words.codes", Rows.laid_flotilla_words_codes) :: r) W) : Cd W := by
  obtain ⟨ps, ⟨g', t', cs, fuel, p, q, hg', ht', hvar, hd, _, _⟩, _⟩ := h.tail.tail.tail.tail.tail.tail.tail.tail
  obtain rfl := Option.some.inj (Tryz.gCd.symm.trans hg')
  obtain rfl := Option.some.inj (Tryz.gCdType.symm.trans ht')
  obtain ⟨xs, m, _, hx, hl, hlen, hf⟩ := DataW.trod_array Tryz.und167 hd
  rw [Tryz.cells167] at hl
  rw [Tryz.cells9] at hf
  have hxs : xs.map (·.1) = cdN.map fun l => (.lit (.string l) : DataW Unit) := by
    have := congrArg Prod.fst hx
    have e : (.agg (xs.map (·.1)) : DataW Unit) = Rows.laid_flotilla_words_codes := this.symm
    injection e
  have hcell : ∀ i, i < 5 → W.cell? ⟨1, i, none⟩ = some (.string ⟨(cdN.getD i []).toArray⟩) := by
    intro i hi
    have hd : (cdN.map fun l => (.lit (.string l) : DataW Unit))[i]? = some (.lit (.string (cdN.getD i []))) := by
      have hlen : cdN.length = 5 := rfl
      rw [List.getElem?_map, List.getD_eq_getElem?_getD, List.getElem?_eq_getElem (by omega)]
      rfl
    obtain ⟨y, hy, e⟩ := map_at hxs hd
    have c := str_cells ((hf i hi).trans hy) e
    have hc : cs.toList[i]? = some (.string ⟨(cdN.getD i []).toArray⟩) := by
      have := congrArg (fun l => l[0]?) c
      simp only [List.getElem?_take, List.getElem?_drop] at this
      rw [if_pos (by omega)] at this
      simpa using this
    rw [World.var?_cell Tryz.gCd hvar i]
    simpa using hc
  exact ⟨World.block_lt_of_cell? W _ (hcell 0 (by omega)), hcell⟩
theorem Tryz.gFld : Tryz.prog.globalNamed "flotilla/mail.fields" = some 2 := by kernel_rfl
theorem Tryz.gFldType : (Tryz.prog.globals[2]?).map (·.type) = some 182 := by kernel_rfl
theorem Tryz.cells182 : Tryz.prog.cellsOf 182 = 16 := by kernel_rfl
theorem Tryz.und182 : Tryz.prog.underlying 182 = some (.array 16 9) := by kernel_rfl
set_option maxRecDepth 100000 in
/-- The fields. -/
theorem fld_of_laid {a b c d e f : String × DataW Unit} {r : List (String × DataW Unit)} {W : World} (h : laidMet Tryz.prog (a :: b :: c :: d :: e :: f :: ("flotilla/mail.fields", Rows.laid_flotilla_mail_fields) :: r) W) : Fld W := by
  obtain ⟨ps, ⟨g', t', cs, fuel, p, q, hg', ht', hvar, hd, _, _⟩, _⟩ := h.tail.tail.tail.tail.tail.tail
  obtain rfl := Option.some.inj (Tryz.gFld.symm.trans hg')
  obtain rfl := Option.some.inj (Tryz.gFldType.symm.trans ht')
  obtain ⟨xs, m, _, hx, hl, hlen, hf⟩ := DataW.trod_array Tryz.und182 hd
  rw [Tryz.cells182] at hl
  rw [Tryz.cells9] at hf
  have hxs : xs.map (·.1) = fldN.map fun l => (.lit (.string l) : DataW Unit) := by
    have := congrArg Prod.fst hx
    have e : (.agg (xs.map (·.1)) : DataW Unit) = Rows.laid_flotilla_mail_fields := this.symm
    injection e
  have hcell : ∀ i, i < 16 → W.cell? ⟨2, i, none⟩ = some (.string (fldS i)) := by
    intro i hi
    have hd : (fldN.map fun l => (.lit (.string l) : DataW Unit))[i]? = some (.lit (.string (fldN.getD i []))) := by
      have hlen : fldN.length = 16 := rfl
      rw [List.getElem?_map, List.getD_eq_getElem?_getD, List.getElem?_eq_getElem (by omega)]
      rfl
    obtain ⟨y, hy, e⟩ := map_at hxs hd
    have c := str_cells ((hf i hi).trans hy) e
    have hc : cs.toList[i]? = some (.string (fldS i)) := by
      have := congrArg (fun l => l[0]?) c
      simp only [List.getElem?_take, List.getElem?_drop] at this
      rw [if_pos (by omega)] at this
      simpa [fldS] using this
    rw [World.var?_cell Tryz.gFld hvar i]
    simpa using hc
  exact ⟨World.block_lt_of_cell? W _ (hcell 0 (by omega)), hcell⟩
/-- A world for the witness. -/
noncomputable def laidWorldE (os : Os) : World :=
  { laidWorld os with heap := ((laidWorld os).heap.modify 1 fun
      | .cells _ t frozen => .cells (cdN.map fun l => Value.string ⟨l.toArray⟩).toArray t frozen
      | o => o).modify 2 fun
      | .cells _ t frozen => .cells (fldN.map fun l => Value.string ⟨l.toArray⟩).toArray t frozen
      | o => o }
theorem max_of_shapeE {W : World} (h : W.ShapedOpen Tryz.prog) : ∃ m, W.cell? ⟨0, 0, none⟩ = some (.int .i64 m) :=
  cell_of_shapedOpen_int (t := 3) (zero := #[.int .i64 0]) h (by decide +kernel) (by kernel_rfl) rfl (by kernel_rfl) (by kernel_rfl) Tryz.underlying3
theorem evs_of_laidE {W : World} (h : laidMet Tryz.prog Rows.gateEachUptoRow.laid W) (hs : W.ShapedOpen Tryz.prog) : Evs [inC W] := by
  obtain ⟨m, hm⟩ := max_of_shapeE hs
  have hT := tab_of_laid h
  have hb : ∀ W', All [inC W] W' → Below W.heap.size W W' := fun W' k => k.into (by simp)
  exact ⟨fun W' k => (vars_of_laid h).later (hb W' k), fun W' k => hT.below (hb W' k), fun W' k => (wf_of_laid (laidMet.tail h)).later (hb W' k), fun W' k => ⟨m, cell_under (hb W' k) (by have := World.block_lt_of_cell? W _ hm; simpa using this) hm⟩, W, by simp, hT⟩
section
variable {H : Type} {enc : TypeId × Value → H} {W : World} {base : Nat} {sp : Nat → Bool} {held : Bool} {fuel : Nat} {cs : List Value} {x : DataW H × List MemPlace}
theorem bulk_all_app (a b : List (DataW H)) : Rows.uptoBulkAll (a ++ b) = Rows.uptoBulkAll a + Rows.uptoBulkAll b := by
  induction a with
  | nil => simp [Rows.uptoBulkAll]
  | cons d r ih => simp only [List.cons_append, Rows.uptoBulkAll, ih]; omega
theorem bulk_strs (Sx : Nat → ByteArray) (l : List Nat) : lenJ (l.map fun i => (Sx i).data.toList) + l.length ≤ 32 * Rows.uptoBulkAll (l.map fun i => (.lit (.string (Sx i).data.toList) : DataW H)) := by
  induction l with
  | nil => simp [lenJ]
  | cons a r ih =>
    simp only [lenJ, List.map_cons, List.sum_cons, Rows.uptoBulkAll, Rows.uptoBulk, List.length_cons] at ih ⊢
    omega
/-- Texts that came in, with how much they hold. -/
theorem texts_bulk (h : DataW.trod enc Tryz.prog W base sp held fuel 43 cs = some x) : ∃ s l, cs = [s] ∧ Rt W s l ∧ lenJ l + l.length ≤ 32 * Rows.uptoBulk x.1 := by
  rcases open_strs Tryz.underlying43 Tryz.underlying9 Tryz.cells9 h with ⟨rfl, rfl⟩ | ⟨a, len, cap, m, Sx, rfl, _, hl, hm, hmm, rfl, hc⟩
  · exact ⟨_, [], rfl, ⟨none, 0, rfl, by simp, Or.inl rfl⟩, by simp [lenJ]⟩
  · have hlm : len ≤ m := by rw [hmm]; split <;> omega
    refine ⟨_, (List.range len).map fun i => (Sx i).data.toList, rfl, ⟨some a, cap, by simp, by simpa using hl, ?_⟩, ?_⟩
    · by_cases h0 : len = 0
      · left; subst h0; rfl
      · right
        have hc0 := (hc 0 (by omega)).1
        have hsp : a.spot = none := by
          have := World.cell?_spot hc0
          simpa [Addr.add] using this
        obtain ⟨b, off, sp'⟩ := a
        simp only at hsp
        subst hsp
        refine ⟨b, off, rfl, ?_, fun j hj => ?_⟩
        · have := World.block_lt_of_cell? W _ hc0
          simpa [Addr.add] using this
        · have hj' : j < len := by simpa using hj
          have h1 := (hc j (by omega)).1
          rw [Addr.add_lit] at h1
          rw [h1]
          simp
    · have := bulk_strs (H := H) Sx (List.range len)
      simp only [Rows.uptoBulk, List.length_map] at this ⊢
      omega
theorem open_wsB {v : Value} {d : DataW H} {p : List MemPlace} (h : DataW.Trod enc Tryz.prog W 0 (fun _ => true) true 43 v d p) (hv : ∃ a l c, v = .slice a l c) (hb : Rows.uptoBulk d ≤ 1048576) : ∃ ws, Rt W v ws ∧ lenJ ws ≤ 33554432 := by
  obtain ⟨fuel, hf⟩ := h
  obtain ⟨a0, l0, c0, rfl⟩ := hv
  obtain ⟨s, l, e, hr, hz⟩ := texts_bulk hf
  simp [Value.cells] at e
  subst e
  simp only at hz
  exact ⟨l, hr, by omega⟩
end
theorem lenJ_cons (a : List UInt8) (r : Ws) : lenJ (a :: r) = 4 * a.length + 16 + lenJ r := by simp [lenJ]
theorem lenJ_all : ∀ {l : Ws} {k : Nat}, lenJ l ≤ k → 16 * l.length ≤ k ∧ ∀ x ∈ l, x.length ≤ k
  | [], k, h => ⟨Nat.zero_le _, fun x hx => by cases hx⟩
  | a :: r, k, h => by
    rw [lenJ_cons] at h
    obtain ⟨h1, h2⟩ := lenJ_all (l := r) (k := k - (4 * a.length + 16)) (by omega)
    refine ⟨by simp only [List.length_cons]; omega, fun x hx => ?_⟩
    rcases List.mem_cons.1 hx with rfl | hx
    · omega
    · have := h2 x hx; omega
end Go.Proofs.YtdhkdniddjnigaaGreatDoor

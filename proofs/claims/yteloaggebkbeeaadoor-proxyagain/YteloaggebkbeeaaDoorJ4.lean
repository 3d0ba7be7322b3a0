import Derived.Test.YteloaggebkbeeaaDoorJ3
import Derived.Test.YteloaggebkbeeaaDoorLaid
import Derived.Deep.Strs
namespace Go.Proofs.YteloaggebkbeeaaDoor
open Go.ChangeShapes Go.WideShapes Go.ChangeAt Go.RowKit Go.Deep Go.Joins
set_option linter.unusedVariables false

theorem co3 : Tryd.prog.cellsOf 3 = 1 := by kernel_rfl
theorem co9 : Tryd.prog.cellsOf 9 = 1 := by kernel_rfl
theorem co32 : Tryd.prog.cellsOf 32 = 5 := by kernel_rfl
theorem co23 : Tryd.prog.cellsOf 23 = 10 := by kernel_rfl
theorem i64_wf {n : Int} (h : (Lit.int .i64 n).wf = true) : -9223372036854775808 ≤ n ∧ n ≤ 9223372036854775807 := by
  simpa [Lit.wf, IntKind.min, IntKind.max, IntKind.signed, IntKind.bits] using h
theorem nth {α : Type} {l : List α} {n i : Nat} (hl : l.length = n) (hi : i < n) : ∃ y, l[i]? = some y := ⟨_, List.getElem?_eq_getElem (by omega)⟩
theorem list5 {l : List Value} {a b c d e : Value} (hl : l.length = 5) (h0 : (l.drop 0).take 1 = [a]) (h1 : (l.drop 1).take 1 = [b]) (h2 : (l.drop 2).take 1 = [c]) (h3 : (l.drop 3).take 1 = [d]) (h4 : (l.drop 4).take 1 = [e]) : l = [a, b, c, d, e] := by
  match l, hl with
  | [x0, x1, x2, x3, x4], _ => simp at h0 h1 h2 h3 h4; simp [h0, h1, h2, h3, h4]
theorem list10 {l : List Value} {v0 v1 v2 v3 v4 v5 v6 v7 v8 v9 : Value} (hl : l.length = 10) (h0 : (l.drop 0).take 1 = [v0]) (h1 : (l.drop 1).take 1 = [v1]) (h2 : (l.drop 2).take 1 = [v2]) (h3 : (l.drop 3).take 1 = [v3]) (h4 : (l.drop 4).take 1 = [v4]) (h5 : (l.drop 5).take 1 = [v5]) (h6 : (l.drop 6).take 1 = [v6]) (h7 : (l.drop 7).take 1 = [v7]) (h8 : (l.drop 8).take 1 = [v8]) (h9 : (l.drop 9).take 1 = [v9]) : l = [v0, v1, v2, v3, v4, v5, v6, v7, v8, v9] := by
  match l, hl with
  | [x0, x1, x2, x3, x4, x5, x6, x7, x8, x9], _ => simp at h0 h1 h2 h3 h4 h5 h6 h7 h8 h9; simp [h0, h1, h2, h3, h4, h5, h6, h7, h8, h9]
section
variable {H : Type} {enc : TypeId × Value → H} {W : World} {fuel : Nat} {cs : List Value} {x : DataW H × List MemPlace}
set_option maxRecDepth 100000 in
theorem op_cells (h : DataW.trod enc Tryd.prog W 0 (fun _ => true) true fuel 32 cs = some x) : ∃ k nm tx m q, cs = [.int .i64 k, .string nm, .string tx, .int .i64 m, .int .i64 q] := by
  obtain ⟨xs, f, _, rfl, hl, hlen, hf⟩ := DataW.trod_struct Tryd.underlying32 h
  have hlen : xs.length = 5 := hlen
  obtain ⟨y0, hy0⟩ := nth hlen (i := 0) (by omega)
  obtain ⟨y1, hy1⟩ := nth hlen (i := 1) (by omega)
  obtain ⟨y2, hy2⟩ := nth hlen (i := 2) (by omega)
  obtain ⟨y3, hy3⟩ := nth hlen (i := 3) (by omega)
  obtain ⟨y4, hy4⟩ := nth hlen (i := 4) (by omega)
  have g0 : DataW.trod enc Tryd.prog W 0 (fun _ => true) true f 3 ((cs.drop 0).take (Tryd.prog.cellsOf 3)) = some y0 := (hf 0 _ rfl).trans hy0
  rw [co3] at g0
  have g1 : DataW.trod enc Tryd.prog W 0 (fun _ => true) true f 9 ((cs.drop 1).take (Tryd.prog.cellsOf 9)) = some y1 := (hf 1 _ rfl).trans hy1
  rw [co9] at g1
  have g2 : DataW.trod enc Tryd.prog W 0 (fun _ => true) true f 9 ((cs.drop 2).take (Tryd.prog.cellsOf 9)) = some y2 := (hf 2 _ rfl).trans hy2
  rw [co9] at g2
  have g3 : DataW.trod enc Tryd.prog W 0 (fun _ => true) true f 3 ((cs.drop 3).take (Tryd.prog.cellsOf 3)) = some y3 := (hf 3 _ rfl).trans hy3
  rw [co3] at g3
  have g4 : DataW.trod enc Tryd.prog W 0 (fun _ => true) true f 3 ((cs.drop 4).take (Tryd.prog.cellsOf 3)) = some y4 := (hf 4 _ rfl).trans hy4
  rw [co3] at g4
  rw [co32] at hl
  obtain ⟨k, e0, _, _⟩ := DataW.trod_int Tryd.underlying3 g0
  obtain ⟨nm, e1, _, _⟩ := DataW.trod_string Tryd.underlying9 g1
  obtain ⟨tx, e2, _, _⟩ := DataW.trod_string Tryd.underlying9 g2
  obtain ⟨m, e3, _, _⟩ := DataW.trod_int Tryd.underlying3 g3
  obtain ⟨q, e4, _, _⟩ := DataW.trod_int Tryd.underlying3 g4
  exact ⟨k, nm, tx, m, q, list5 hl e0 e1 e2 e3 e4⟩
set_option maxRecDepth 100000 in
theorem cfg_cells (h : DataW.trod enc Tryd.prog W 0 (fun _ => true) true fuel 23 cs = some x) : ∃ c : Cg, cs = c.cells := by
  obtain ⟨xs, f, _, rfl, hl, hlen, hf⟩ := DataW.trod_struct Tryd.underlying23 h
  have hlen : xs.length = 10 := hlen
  obtain ⟨y0, hy0⟩ := nth hlen (i := 0) (by omega)
  obtain ⟨y1, hy1⟩ := nth hlen (i := 1) (by omega)
  obtain ⟨y2, hy2⟩ := nth hlen (i := 2) (by omega)
  obtain ⟨y3, hy3⟩ := nth hlen (i := 3) (by omega)
  obtain ⟨y4, hy4⟩ := nth hlen (i := 4) (by omega)
  obtain ⟨y5, hy5⟩ := nth hlen (i := 5) (by omega)
  obtain ⟨y6, hy6⟩ := nth hlen (i := 6) (by omega)
  obtain ⟨y7, hy7⟩ := nth hlen (i := 7) (by omega)
  obtain ⟨y8, hy8⟩ := nth hlen (i := 8) (by omega)
  obtain ⟨y9, hy9⟩ := nth hlen (i := 9) (by omega)
  have g0 : DataW.trod enc Tryd.prog W 0 (fun _ => true) true f 3 ((cs.drop 0).take (Tryd.prog.cellsOf 3)) = some y0 := (hf 0 _ rfl).trans hy0
  rw [co3] at g0
  have g1 : DataW.trod enc Tryd.prog W 0 (fun _ => true) true f 3 ((cs.drop 1).take (Tryd.prog.cellsOf 3)) = some y1 := (hf 1 _ rfl).trans hy1
  rw [co3] at g1
  have g2 : DataW.trod enc Tryd.prog W 0 (fun _ => true) true f 3 ((cs.drop 2).take (Tryd.prog.cellsOf 3)) = some y2 := (hf 2 _ rfl).trans hy2
  rw [co3] at g2
  have g3 : DataW.trod enc Tryd.prog W 0 (fun _ => true) true f 3 ((cs.drop 3).take (Tryd.prog.cellsOf 3)) = some y3 := (hf 3 _ rfl).trans hy3
  rw [co3] at g3
  have g4 : DataW.trod enc Tryd.prog W 0 (fun _ => true) true f 3 ((cs.drop 4).take (Tryd.prog.cellsOf 3)) = some y4 := (hf 4 _ rfl).trans hy4
  rw [co3] at g4
  have g5 : DataW.trod enc Tryd.prog W 0 (fun _ => true) true f 3 ((cs.drop 5).take (Tryd.prog.cellsOf 3)) = some y5 := (hf 5 _ rfl).trans hy5
  rw [co3] at g5
  have g6 : DataW.trod enc Tryd.prog W 0 (fun _ => true) true f 3 ((cs.drop 6).take (Tryd.prog.cellsOf 3)) = some y6 := (hf 6 _ rfl).trans hy6
  rw [co3] at g6
  have g7 : DataW.trod enc Tryd.prog W 0 (fun _ => true) true f 3 ((cs.drop 7).take (Tryd.prog.cellsOf 3)) = some y7 := (hf 7 _ rfl).trans hy7
  rw [co3] at g7
  have g8 : DataW.trod enc Tryd.prog W 0 (fun _ => true) true f 3 ((cs.drop 8).take (Tryd.prog.cellsOf 3)) = some y8 := (hf 8 _ rfl).trans hy8
  rw [co3] at g8
  have g9 : DataW.trod enc Tryd.prog W 0 (fun _ => true) true f 3 ((cs.drop 9).take (Tryd.prog.cellsOf 3)) = some y9 := (hf 9 _ rfl).trans hy9
  rw [co3] at g9
  rw [co23] at hl
  obtain ⟨k0, e0, _, _⟩ := DataW.trod_int Tryd.underlying3 g0
  obtain ⟨k1, e1, _, _⟩ := DataW.trod_int Tryd.underlying3 g1
  obtain ⟨k2, e2, _, _⟩ := DataW.trod_int Tryd.underlying3 g2
  obtain ⟨k3, e3, _, _⟩ := DataW.trod_int Tryd.underlying3 g3
  obtain ⟨k4, e4, _, _⟩ := DataW.trod_int Tryd.underlying3 g4
  obtain ⟨k5, e5, _, _⟩ := DataW.trod_int Tryd.underlying3 g5
  obtain ⟨k6, e6, _, _⟩ := DataW.trod_int Tryd.underlying3 g6
  obtain ⟨k7, e7, _, _⟩ := DataW.trod_int Tryd.underlying3 g7
  obtain ⟨k8, e8, _, _⟩ := DataW.trod_int Tryd.underlying3 g8
  obtain ⟨k9, e9, _, _⟩ := DataW.trod_int Tryd.underlying3 g9
  exact ⟨⟨k0, k1, k2, k3, k4, k5, k6, k7, k8, k9⟩, list10 hl e0 e1 e2 e3 e4 e5 e6 e7 e8 e9⟩
theorem open_cfg {v : Value} {d : DataW H} {p : List MemPlace} (h : DataW.Trod enc Tryd.prog W 0 (fun _ => true) true 23 v d p) (hv : ∃ cs, v = .agg cs ∧ cs.size = Tryd.prog.cellsOf 23) : ∃ c : Cg, v = .agg c.cells.toArray := by
  obtain ⟨fuel, hf⟩ := h
  obtain ⟨cs, rfl, _⟩ := hv
  obtain ⟨c, e⟩ := cfg_cells hf
  refine ⟨c, ?_⟩
  obtain ⟨q⟩ := cs
  have e : q = _ := e
  rw [e]
theorem open_op {v : Value} {d : DataW H} {p : List MemPlace} (h : DataW.Trod enc Tryd.prog W 0 (fun _ => true) true 32 v d p) (hv : ∃ cs, v = .agg cs ∧ cs.size = Tryd.prog.cellsOf 32) : ∃ k nm tx m q, v = opV k nm tx m q := by
  obtain ⟨fuel, hf⟩ := h
  obtain ⟨cs, rfl, _⟩ := hv
  obtain ⟨k, nm, tx, m, q, e⟩ := op_cells hf
  refine ⟨k, nm, tx, m, q, ?_⟩
  obtain ⟨l⟩ := cs
  have e : l = _ := e
  rw [e]
theorem open_i64 {n : Int} {d : DataW H} {p : List MemPlace} (h : DataW.Trod enc Tryd.prog W 0 (fun _ => true) true 3 (.int .i64 n) d p) : -9223372036854775808 ≤ n ∧ n ≤ 9223372036854775807 := by
  obtain ⟨fuel, hf⟩ := h
  obtain ⟨k, e, _, hw⟩ := DataW.trod_int Tryd.underlying3 hf
  simp only [Value.cells, List.cons.injEq, Value.int.injEq, and_true, true_and] at e
  subst e
  exact i64_wf hw
end
end Go.Proofs.YteloaggebkbeeaaDoor

namespace Go.Proofs.YteloaggebkbeeaaDoor
open Go.RowKit
/-- A world for the witness. -/
noncomputable def laidWorld (os : Os) : World :=
  { World.holding Tryd.prog os ⟨#[], #[], []⟩ with heap := (((World.holding Tryd.prog os ⟨#[], #[], []⟩).heap.modify 0 fun
      | .cells _ t frozen => .cells (formN.map fun n : Int => Value.int .i64 n).toArray t frozen
      | o => o).modify 1 fun
      | .cells _ t frozen => .cells (fldN.map fun l => Value.string ⟨l.toArray⟩).toArray t frozen
      | o => o) }
end Go.Proofs.YteloaggebkbeeaaDoor
namespace Go.Proofs.YteloaggebkbeeaaDoor.proxyAgain
open Go.ChangeShapes Go.WideShapes Go.ChangeAt Go.RowKit
set_option linter.unusedVariables false

set_option maxRecDepth 100000 in
theorem contract (H : Type) (enc : TypeId × Value → H) (W : World) (base : Nat) (args : Array Value) (ds gs : List (DataW H)) (before : List MemPlace)
    (hval : ∀ (j : Nat) t v, Tryd.f4.params[j]? = some t → args[j]? = some v → Value.okWide Tryd.prog W .any base t v)
    (hW : DataW.Whole enc Tryd.prog Tryd.f4.params.toList Rows.proxyAgainSpec.vars false W args.toList ds gs before)
    (hz : (DataW.weightsEach Tryd.prog (Tryd.f4.params.toList ++ (OpenSpec.ofChange Rows.proxyAgainSpec).bare.plain.varTypes Tryd.prog) (ds ++ gs)).all (· ≤ reachBytes) = true)
    (hL : laidMetH Tryd.prog Rows.proxyAgainRow.laid W) :
    Calls Tryd.prog 4 args W fun e W' => ∃ v, e = .returned v ∧ Rows.proxyAgainSpec.post enc Tryd.prog Tryd.f4 false true false false W args v W' := by
  have hW' := hW
  obtain ⟨p, q, hA0, hV, rfl, hfz, hnd⟩ := hW
  have hA : DataW.TrodAll enc Tryd.prog W 0 (fun _ => true) true Tryd.f4.params.toList args.toList ds p := hA0
  rw [Tryd.params4] at hA hval hz
  obtain ⟨v0, v1, v2, v3, d0, d1, d2, d3, p0, p1, p2, p3, rfl, rfl, rfl, h0, h1, h2, h3⟩ := trodAll_four hA
  obtain ⟨rfl, rfl⟩ := trodVars_none hV
  clear hA0
  simp only [List.append_nil] at hW' hz
  obtain ⟨n2, rfl⟩ := okWide_int Tryd.underlying3 (hval 2 3 v2 rfl rfl)
  obtain ⟨n3, rfl⟩ := okWide_int Tryd.underlying3 (hval 3 3 v3 rfl rfl)
  obtain ⟨c, rfl⟩ := open_cfg h0 (okWide_struct Tryd.underlying23 (hval 0 23 v0 rfl rfl))
  obtain ⟨k, nm, tx, a, d, rfl⟩ := open_op h1 (okWide_struct Tryd.underlying32 (hval 1 32 v1 rfl rfl))
  have hn2 := open_i64 h2
  have hn3 := open_i64 h3
  have hlt0 : ∀ x ∈ p0, x.block < W.heap.size := fun x hx => by simpa using hW'.lt x (by simp [hx])
  have hlt1 : ∀ x ∈ p1, x.block < W.heap.size := fun x hx => by simpa using hW'.lt x (by simp [hx])
  have hlt2 : ∀ x ∈ p2, x.block < W.heap.size := fun x hx => by simpa using hW'.lt x (by simp [hx])
  have hlt3 : ∀ x ∈ p3, x.block < W.heap.size := fun x hx => by simpa using hW'.lt x (by simp [hx])
  refine (again_law (tab_of_laid hL) (fld_of_laid hL) c k nm tx a d n2 n3 hn2 hn3).mono fun e W' ⟨he, hbel⟩ => ?_
  subst he
  refine ⟨_, rfl, _, _, _, [], _, [], hW', trodAll_mk1 (shut_bool Tryd.underlying4 _), trodAll_mk4 (Below.trod Tryd.laidOut (by kernel_rfl) (of_decide_eq_true (by kernel_rfl)) h0 hbel hlt0) (Below.trod Tryd.laidOut (by kernel_rfl) (of_decide_eq_true (by kernel_rfl)) h1 hbel hlt1) (Below.trod Tryd.laidOut (by kernel_rfl) (of_decide_eq_true (by kernel_rfl)) h2 hbel hlt2) (Below.trod Tryd.laidOut (by kernel_rfl) (of_decide_eq_true (by kernel_rfl)) h3 hbel hlt3), rfl, hbel.frame _, fun h => by cases h⟩

set_option maxRecDepth 100000 in
theorem laid_met (os : Os) : laidMet Tryd.prog Rows.proxyAgainRow.laid ((laidWorld os).forCall (fun _ _ => 0) ⟨#[], #[.agg #[.int .i64 0, .int .i64 0, .int .i64 0, .int .i64 0, .int .i64 0, .int .i64 0, .int .i64 0, .int .i64 0, .int .i64 0, .int .i64 0], .agg #[.int .i64 0, .string ⟨#[]⟩, .string ⟨#[]⟩, .int .i64 0, .int .i64 0], .int .i64 0, .int .i64 0], []⟩).memory :=
  laidMet_of_run' 8 (by kernel_rfl) (by kernel_rfl)
set_option maxRecDepth 100000 in
theorem reads (os : Os) {H : Type} (enc : TypeId × Value → H) : ∃ places, DataW.whole enc Tryd.prog ((laidWorld os).forCall (fun _ _ => 0) ⟨#[], #[.agg #[.int .i64 0, .int .i64 0, .int .i64 0, .int .i64 0, .int .i64 0, .int .i64 0, .int .i64 0, .int .i64 0, .int .i64 0, .int .i64 0], .agg #[.int .i64 0, .string ⟨#[]⟩, .string ⟨#[]⟩, .int .i64 0, .int .i64 0], .int .i64 0, .int .i64 0], []⟩).memory Tryd.f4.params.toList Rows.proxyAgainSpec.vars false (#[.agg #[.int .i64 0, .int .i64 0, .int .i64 0, .int .i64 0, .int .i64 0, .int .i64 0, .int .i64 0, .int .i64 0, .int .i64 0, .int .i64 0], .agg #[.int .i64 0, .string ⟨#[]⟩, .string ⟨#[]⟩, .int .i64 0, .int .i64 0], .int .i64 0, .int .i64 0] : Array Value).toList 8 = some ([.agg [.lit (.int .i64 0), .lit (.int .i64 0), .lit (.int .i64 0), .lit (.int .i64 0), .lit (.int .i64 0), .lit (.int .i64 0), .lit (.int .i64 0), .lit (.int .i64 0), .lit (.int .i64 0), .lit (.int .i64 0)], .agg [.lit (.int .i64 0), .lit (.string []), .lit (.string []), .lit (.int .i64 0), .lit (.int .i64 0)], .lit (.int .i64 0), .lit (.int .i64 0)], [], places) :=
  ⟨[], by kernel_rfl⟩

set_option maxRecDepth 100000 in
theorem lifted (os : Os) (started : os.Started) (H : Type) (enc : TypeId × Value → H) (F : Stop.Interp) :
    ReturnsInHanded {} Tryd.checked os 4 .any ((OpenSpec.ofChange Rows.proxyAgainSpec).preRow enc Tryd.prog Tryd.f4 Rows.proxyAgainRow.domain false Rows.proxyAgainRow.laid) (((OpenSpec.ofChange Rows.proxyAgainSpec).at F).post enc Tryd.prog Tryd.f4 false true false false) := by
  obtain ⟨places, hx⟩ := reads os enc
  refine returnsInHanded_of_row (C := Tryd.checked) (s := (OpenSpec.ofChange Rows.proxyAgainSpec)) Tryd.own started (by kernel_rfl) Tryd.func4
    (witness_row_at (enc := enc) (C := Tryd.checked) false (laidWorld os) #[.agg #[.int .i64 0, .int .i64 0, .int .i64 0, .int .i64 0, .int .i64 0, .int .i64 0, .int .i64 0, .int .i64 0, .int .i64 0, .int .i64 0], .agg #[.int .i64 0, .string ⟨#[]⟩, .string ⟨#[]⟩, .int .i64 0, .int .i64 0], .int .i64 0, .int .i64 0] rfl (by kernel_rfl) (by kernel_rfl) (by kernel_rfl)
      (OpenSpec.preRow_of_cond 8 hx (by kernel_rfl) (fun k hk => by cases hk) (by kernel_rfl) (laid_met os))) ?_
  intro W base args ds gs before hval hW _ _ hz hL _ _
  exact contract H enc W base args ds gs before hval hW hz hL

theorem said : Rows.ProxyAgainSaid :=
  OpenClaim.holds_of_cond 4 Tryd.f4 rfl rfl rfl rfl rfl rfl rfl ⟨rfl, rfl, rfl, rfl, rfl⟩ rfl rfl rfl rfl rfl (by kernel_rfl) Tryd.func4 (by kernel_rfl)
    (of_decide_eq_true (by kernel_rfl)) (by unfold Func.isWrapper; first | (rw [if_pos (by decide +kernel)]; kernel_rfl) | (rw [if_neg (by decide +kernel)]; exact ⟨rfl, rfl⟩))
    (fun os started H enc _ F => by rw [OpenClaim.pre_eq_preRow]; exact lifted os started H enc F)

theorem plain (f : FuncId) (fn : Func) (hf : Tryd.pinned.checked.prog.funcNamed "flotilla/flotillalaw14.ProxyAgain" = some f) (hfn : Tryd.pinned.checked.prog.funcs[f]? = some fn) :
    false = Tryd.pinned.checked.prog.looks [] ∧ ∀ (j : Nat) t, fn.params[j]? = some t → Tryd.pinned.checked.prog.wantsStandIn t = false := by
  obtain rfl : f = 4 := Option.some.inj ((show Tryd.prog.funcNamed "flotilla/flotillalaw14.ProxyAgain" = some 4 by kernel_rfl).symm.trans hf) |>.symm
  obtain rfl : fn = Tryd.f4 := (Option.some.inj (Tryd.func4.symm.trans hfn)).symm
  refine ⟨by kernel_rfl, fun j t ht => ?_⟩
  rw [Tryd.params4] at ht
  have hts : t = 23 ∨ t = 32 ∨ t = 3 := by simpa using Array.mem_of_getElem? ht
  rcases hts with rfl | rfl | rfl
  · exact (show Tryd.prog.wantsStandIn 23 = false by kernel_rfl)
  · exact (show Tryd.prog.wantsStandIn 32 = false by kernel_rfl)
  · exact (show Tryd.prog.wantsStandIn 3 = false by kernel_rfl)

theorem card : Rows.ProxyAgainCardSaid :=
  Claim7.holds_tied_plain_at .later [] _ _ _ _ said (fun _ h => by cases h) (by kernel_rfl) (fun _ h => by cases h) proxyAgain_row_tie rfl ⟨rfl, rfl⟩ (by kernel_rfl) rfl plain (by kernel_rfl)
end Go.Proofs.YteloaggebkbeeaaDoor.proxyAgain

namespace Go.Proofs.YteloaggebkbeeaaDoor
theorem proxyAgain_holds : Rows.ProxyAgainCardSaid := proxyAgain.card
#print axioms proxyAgain_holds
end Go.Proofs.YteloaggebkbeeaaDoor

import Derived.Test.YthnccpbgccmapaaDoorLaid
namespace Go.Proofs.YthnccpbgccmapaaDoor
open Go.ChangeShapes Go.WideShapes Go.ChangeAt Go.RowKit Go.Deep Go.Joins
set_option linter.unusedVariables false

theorem Tryd.cells38 : Tryd.prog.cellsOf 38 = 5 := by kernel_rfl
theorem Tryd.cells31 : Tryd.prog.cellsOf 31 = 4 := by kernel_rfl
theorem Tryd.cells22 : Tryd.prog.cellsOf 22 = 1 := by kernel_rfl
theorem Tryd.cells3 : Tryd.prog.cellsOf 3 = 1 := by kernel_rfl

section
variable {H : Type} {enc : TypeId × Value → H} {W : World}

/-- A field that is a list of bytes. -/
theorem field_bytes {n : Nat} {v : Value} {y : DataW H × List MemPlace} (h : DataW.trod enc Tryd.prog W 0 (fun _ => true) true n 22 [v] = some y) :
    ∃ l, Reads W v l ∧ l.length ≤ Rows.uptoBulk y.1 ∧ (l = [] ∨ ∃ elems spare, y.1 = .slice elems spare ∧ elems.length = l.length) := by
  have hv : ∃ a l c, v = .slice a l c := by
    rcases DataW.trod_slice Tryd.underlying22 h with ⟨e, _⟩ | ⟨a, len, cap, _, _, _, _, e, _⟩
    · simp at e; exact ⟨_, _, _, e⟩
    · simp at e; exact ⟨_, _, _, e⟩
  obtain ⟨a, l, c, rfl⟩ := hv
  have hT : DataW.Trod enc Tryd.prog W 0 (fun _ => true) true 22 (.slice a l c) y.1 y.2 := ⟨n, h⟩
  exact open_bytes hT ⟨a, l, c, rfl⟩

theorem weights38 (ps : List (DataW H)) : DataW.weightsEach Tryd.prog [38] [.agg ps] = DataW.weightsEach Tryd.prog [22, 3, 3, 25, 25] ps := by
  simp [DataW.weightsEach, DataW.weights, Tryd.underlying38]
theorem weights31 (ps : List (DataW H)) : DataW.weightsEach Tryd.prog [31] [.agg ps] = DataW.weightsEach Tryd.prog [22, 22, 22, 3] ps := by
  simp [DataW.weightsEach, DataW.weights, Tryd.underlying31]

/-- A burst that came in. -/
theorem open_burst {v : Value} {d : DataW H} {p : List MemPlace} (h : DataW.Trod enc Tryd.prog W 0 (fun _ => true) true 38 v d p) (hv : ∃ cs, v = .agg cs) :
    ∃ s hb bb l ps, ∃ hm bm : Nat, v = .agg #[s, .int .i64 hb, .int .i64 bb, .int .u32 (hm : Int), .int .u32 (bm : Int)] ∧ Reads W s l ∧ hm < 4294967296 ∧ bm < 4294967296 ∧ d = .agg ps ∧ (∃ d0, ps[0]? = some d0 ∧ (l = [] ∨ ∃ elems spare, d0 = .slice elems spare ∧ elems.length = l.length)) := by
  obtain ⟨cs, rfl⟩ := hv
  obtain ⟨fuel, hf⟩ := h
  obtain ⟨xs, n, _, hx, hlen, hxl, hfs⟩ := DataW.trod_struct Tryd.underlying38 hf
  rw [Tryd.cells38] at hlen
  obtain ⟨v0, v1, v2, v3, v4, rfl⟩ : ∃ v0 v1 v2 v3 v4, cs = #[v0, v1, v2, v3, v4] := by
    have hl : cs.toList.length = 5 := hlen
    match hcs : cs.toList, hl with
    | [a, b, c, d, e], _ => exact ⟨a, b, c, d, e, by rw [← hcs]⟩
  obtain ⟨y0, y1, y2, y3, y4, rfl⟩ : ∃ y0 y1 y2 y3 y4, xs = [y0, y1, y2, y3, y4] := by
    have hl : xs.length = 5 := hxl
    match xs, hl with
    | [a, b, c, d, e], _ => exact ⟨a, b, c, d, e, rfl⟩
  have g0 : DataW.trod enc Tryd.prog W 0 (fun _ => true) true n 22 ([v0, v1, v2, v3, v4].drop 0 |>.take (Tryd.prog.cellsOf 22)) = some y0 := hfs 0 _ rfl
  have g1 : DataW.trod enc Tryd.prog W 0 (fun _ => true) true n 3 ([v0, v1, v2, v3, v4].drop 1 |>.take (Tryd.prog.cellsOf 3)) = some y1 := hfs 1 _ rfl
  have g2 : DataW.trod enc Tryd.prog W 0 (fun _ => true) true n 3 ([v0, v1, v2, v3, v4].drop 2 |>.take (Tryd.prog.cellsOf 3)) = some y2 := hfs 2 _ rfl
  have g3 : DataW.trod enc Tryd.prog W 0 (fun _ => true) true n 25 ([v0, v1, v2, v3, v4].drop 3 |>.take (Tryd.prog.cellsOf 25)) = some y3 := hfs 3 _ rfl
  have g4 : DataW.trod enc Tryd.prog W 0 (fun _ => true) true n 25 ([v0, v1, v2, v3, v4].drop 4 |>.take (Tryd.prog.cellsOf 25)) = some y4 := hfs 4 _ rfl
  rw [Tryd.cells22] at g0
  rw [Tryd.cells3] at g1 g2
  rw [Tryd.cells25] at g3 g4
  obtain ⟨k1, e1, r1, w1⟩ := DataW.trod_int Tryd.underlying3 g1
  obtain ⟨k2, e2, r2, w2⟩ := DataW.trod_int Tryd.underlying3 g2
  obtain ⟨k3, e3, r3, w3⟩ := DataW.trod_int Tryd.underlying25 g3
  obtain ⟨k4, e4, r4, w4⟩ := DataW.trod_int Tryd.underlying25 g4
  have e1' : v1 = .int .i64 k1 := by simpa [Value.cells] using e1
  have e2' : v2 = .int .i64 k2 := by simpa [Value.cells] using e2
  have e3' : v3 = .int .u32 k3 := by simpa [Value.cells] using e3
  have e4' : v4 = .int .u32 k4 := by simpa [Value.cells] using e4
  subst e1' e2' e3' e4'
  have b3 : 0 ≤ k3 ∧ k3 ≤ 4294967295 := by simpa [Lit.wf, IntKind.min, IntKind.max, IntKind.signed, IntKind.bits] using w3
  have b4 : 0 ≤ k4 ∧ k4 ≤ 4294967295 := by simpa [Lit.wf, IntKind.min, IntKind.max, IntKind.signed, IntKind.bits] using w4
  obtain ⟨m3, rfl⟩ := Int.eq_ofNat_of_zero_le b3.1
  obtain ⟨m4, rfl⟩ := Int.eq_ofNat_of_zero_le b4.1
  have g0' : DataW.trod enc Tryd.prog W 0 (fun _ => true) true n 22 [v0] = some y0 := by simpa [Value.cells] using g0
  obtain ⟨l, hr, hb, hl⟩ := field_bytes g0'
  simp only [Prod.mk.injEq] at hx
  exact ⟨v0, k1, k2, l, _, m3, m4, rfl, hr, by omega, by omega, hx.1, y0.1, rfl, hl⟩

/-- What SealBack is handed. -/
theorem open_back {v : Value} {d : DataW H} {p : List MemPlace} (h : DataW.Trod enc Tryd.prog W 0 (fun _ => true) true 31 v d p) (hv : ∃ cs, v = .agg cs) :
    ∃ s t r ct l m n, v = .agg #[s, t, r, .int .i64 ct] ∧ Reads W s l ∧ Reads W t m ∧ Reads W r n ∧ l.length + m.length + n.length ≤ Rows.uptoBulk d := by
  obtain ⟨cs, rfl⟩ := hv
  obtain ⟨fuel, hf⟩ := h
  obtain ⟨xs, n, _, hx, hlen, hxl, hfs⟩ := DataW.trod_struct Tryd.underlying31 hf
  rw [Tryd.cells31] at hlen
  obtain ⟨v0, v1, v2, v3, rfl⟩ : ∃ v0 v1 v2 v3, cs = #[v0, v1, v2, v3] := by
    have hl : cs.toList.length = 4 := hlen
    match hcs : cs.toList, hl with
    | [a, b, c, d], _ => exact ⟨a, b, c, d, by rw [← hcs]⟩
  obtain ⟨y0, y1, y2, y3, rfl⟩ : ∃ y0 y1 y2 y3, xs = [y0, y1, y2, y3] := by
    have hl : xs.length = 4 := hxl
    match xs, hl with
    | [a, b, c, d], _ => exact ⟨a, b, c, d, rfl⟩
  have g0 : DataW.trod enc Tryd.prog W 0 (fun _ => true) true n 22 ([v0, v1, v2, v3].drop 0 |>.take (Tryd.prog.cellsOf 22)) = some y0 := hfs 0 _ rfl
  have g1 : DataW.trod enc Tryd.prog W 0 (fun _ => true) true n 22 ([v0, v1, v2, v3].drop 1 |>.take (Tryd.prog.cellsOf 22)) = some y1 := hfs 1 _ rfl
  have g2 : DataW.trod enc Tryd.prog W 0 (fun _ => true) true n 22 ([v0, v1, v2, v3].drop 2 |>.take (Tryd.prog.cellsOf 22)) = some y2 := hfs 2 _ rfl
  have g3 : DataW.trod enc Tryd.prog W 0 (fun _ => true) true n 3 ([v0, v1, v2, v3].drop 3 |>.take (Tryd.prog.cellsOf 3)) = some y3 := hfs 3 _ rfl
  rw [Tryd.cells22] at g0 g1 g2
  rw [Tryd.cells3] at g3
  obtain ⟨k3, e3, r3, w3⟩ := DataW.trod_int Tryd.underlying3 g3
  have e3' : v3 = .int .i64 k3 := by simpa [Value.cells] using e3
  subst e3'
  obtain ⟨l0, hr0, hb0, _⟩ := field_bytes (show DataW.trod enc Tryd.prog W 0 (fun _ => true) true n 22 [v0] = some y0 by simpa [Value.cells] using g0)
  obtain ⟨l1, hr1, hb1, _⟩ := field_bytes (show DataW.trod enc Tryd.prog W 0 (fun _ => true) true n 22 [v1] = some y1 by simpa [Value.cells] using g1)
  obtain ⟨l2, hr2, hb2, _⟩ := field_bytes (show DataW.trod enc Tryd.prog W 0 (fun _ => true) true n 22 [v2] = some y2 by simpa [Value.cells] using g2)
  simp only [Prod.mk.injEq] at hx
  refine ⟨v0, v1, v2, k3, l0, l1, l2, rfl, hr0, hr1, hr2, ?_⟩
  rw [hx.1]
  simp only [List.map_cons, List.map_nil, Rows.uptoBulk, Rows.uptoBulkAll]
  omega
end
end Go.Proofs.YthnccpbgccmapaaDoor

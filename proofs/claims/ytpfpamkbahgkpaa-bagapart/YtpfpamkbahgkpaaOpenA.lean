import Derived.Test.YtpfpamkbahgkpaaOpen
namespace Go.Proofs.Ytpfpamkbahgkpaa
open Go.ChangeShapes Go.WideShapes Go.ChangeAt Go.RowKit Go.Deep Go.Joins
set_option linter.unusedVariables false
theorem Try.cellsOf22 : Try.prog.cellsOf 22 = 1 := by kernel_rfl
theorem Try.cellsOf65 : Try.prog.cellsOf 65 = 4 := by kernel_rfl
section
variable {H : Type} {enc : TypeId × Value → H} {W : World}
theorem list4 {l : List Value} {a b c d : Value} (hl : l.length = 4) (h0 : (l.drop 0).take 1 = [a]) (h1 : (l.drop 1).take 1 = [b]) (h2 : (l.drop 2).take 1 = [c]) (h3 : (l.drop 3).take 1 = [d]) : l = [a, b, c, d] := by
  match l, hl with
  | [x0, x1, x2, x3], _ => simp at h0 h1 h2 h3; simp [h0, h1, h2, h3]
set_option maxRecDepth 100000 in
theorem apart_cells {fuel : Nat} {cs : List Value} {x : DataW H × List MemPlace} (h : DataW.trod enc Try.prog W 0 (fun _ => true) true fuel 65 cs = some x) (hz : ∀ n ∈ x.1.weights Try.prog 65, n ≤ reachBytes) : ∃ r v1 v2 v3 xs ys zs, cs = [.int .i64 r, v1, v2, v3] ∧ OpsAt W v1 xs ∧ xs.length * 64 ≤ 140737488351232 ∧ OpsAt W v2 ys ∧ ys.length * 64 ≤ 140737488351232 ∧ OpsAt W v3 zs ∧ zs.length * 64 ≤ 140737488351232 := by
  obtain ⟨xs, f, _, rfl, hl, hlen, hf⟩ := DataW.trod_struct Try.underlying65 h
  have hlen : xs.length = 4 := hlen
  obtain ⟨y0, hy0⟩ := nth hlen (i := 0) (by omega)
  obtain ⟨y1, hy1⟩ := nth hlen (i := 1) (by omega)
  obtain ⟨y2, hy2⟩ := nth hlen (i := 2) (by omega)
  obtain ⟨y3, hy3⟩ := nth hlen (i := 3) (by omega)
  have g0 : DataW.trod enc Try.prog W 0 (fun _ => true) true f 3 ((cs.drop 0).take (Try.prog.cellsOf 3)) = some y0 := (hf 0 _ rfl).trans hy0
  have g1 : DataW.trod enc Try.prog W 0 (fun _ => true) true f 22 ((cs.drop 1).take (Try.prog.cellsOf 22)) = some y1 := (hf 1 _ rfl).trans hy1
  have g2 : DataW.trod enc Try.prog W 0 (fun _ => true) true f 22 ((cs.drop 2).take (Try.prog.cellsOf 22)) = some y2 := (hf 2 _ rfl).trans hy2
  have g3 : DataW.trod enc Try.prog W 0 (fun _ => true) true f 22 ((cs.drop 3).take (Try.prog.cellsOf 22)) = some y3 := (hf 3 _ rfl).trans hy3
  rw [Try.cellsOf3] at g0
  rw [Try.cellsOf22] at g1 g2 g3
  rw [Try.cellsOf65] at hl
  have hz1 : ∀ n ∈ y1.1.weights Try.prog 22, n ≤ reachBytes := fun n hn => hz n (by
    simp only [DataW.weights, Try.underlying65]
    exact DataW.weights_mem_each (j := 1) rfl (by simp [hy1]) n hn)
  have hz2 : ∀ n ∈ y2.1.weights Try.prog 22, n ≤ reachBytes := fun n hn => hz n (by
    simp only [DataW.weights, Try.underlying65]
    exact DataW.weights_mem_each (j := 2) rfl (by simp [hy2]) n hn)
  have hz3 : ∀ n ∈ y3.1.weights Try.prog 22, n ≤ reachBytes := fun n hn => hz n (by
    simp only [DataW.weights, Try.underlying65]
    exact DataW.weights_mem_each (j := 3) rfl (by simp [hy3]) n hn)
  obtain ⟨r, e0, r0, w0⟩ := DataW.trod_int Try.underlying3 g0
  obtain ⟨v1, a1, e1, q1, l1⟩ := ops_cells g1 hz1
  obtain ⟨v2, a2, e2, q2, l2⟩ := ops_cells g2 hz2
  obtain ⟨v3, a3, e3, q3, l3⟩ := ops_cells g3 hz3
  exact ⟨r, v1, v2, v3, a1, a2, a3, list4 hl e0 e1 e2 e3, q1, l1, q2, l2, q3, l3⟩
theorem open_apart {v : Value} {d : DataW H} {p : List MemPlace} (h : DataW.Trod enc Try.prog W 0 (fun _ => true) true 65 v d p) (hv : ∃ cs, v = .agg cs ∧ cs.size = Try.prog.cellsOf 65) (hz : ∀ n ∈ d.weights Try.prog 65, n ≤ reachBytes) : ∃ r v1 v2 v3 xs ys zs, v = .agg #[.int .i64 r, v1, v2, v3] ∧ OpsAt W v1 xs ∧ xs.length * 64 ≤ 140737488351232 ∧ OpsAt W v2 ys ∧ ys.length * 64 ≤ 140737488351232 ∧ OpsAt W v3 zs ∧ zs.length * 64 ≤ 140737488351232 := by
  obtain ⟨fuel, hf⟩ := h
  obtain ⟨cs, rfl, _⟩ := hv
  obtain ⟨r, v1, v2, v3, xs, ys, zs, e, q⟩ := apart_cells hf hz
  refine ⟨r, v1, v2, v3, xs, ys, zs, ?_, q⟩
  obtain ⟨l⟩ := cs
  have e : l = _ := e
  rw [e]
end
end Go.Proofs.Ytpfpamkbahgkpaa

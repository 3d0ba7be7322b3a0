import Derived.Test.YtblojlaifnmimaaGreatDoorOp
namespace Go.Proofs.YtblojlaifnmimaaGreatDoor
open Go.ChangeShapes Go.WideShapes Go.ChangeAt Go.RowKit Go.Deep
set_option linter.unusedVariables false

section
variable {H : Type} {enc : TypeId × Value → H} {W : World}
set_option maxRecDepth 100000 in
/-- How many steps a play that came in has. -/
theorem play_len {c : List Int} {v : Value} {ss : List Sp} {d : DataW H} {p : List MemPlace} (h : DataW.Trod enc Tryz.prog W 0 (fun _ => true) true 27 (.agg (cI c ++ [v]).toArray) d p) (hc : c.length = 10) (hv : Sps W v ss) (hz : ∀ n ∈ d.weights Tryz.prog 27, n ≤ reachBytes) : ss.length * 96 ≤ 140737488355328 := by
  obtain ⟨fuel, hf0⟩ := h
  obtain ⟨xs, f, _, hx, hl, hlen, hf⟩ := DataW.trod_struct Tryz.underlying27 hf0
  have hx1 : d = .agg (xs.map (·.1)) := congrArg Prod.fst hx
  subst hx1
  have hlen : xs.length = 2 := hlen
  obtain ⟨y1, hy1⟩ := nth hlen (i := 1) (by omega)
  have g1 : DataW.trod enc Tryz.prog W 0 (fun _ => true) true f 25 (((cI c ++ [v]).drop 10).take (Tryz.prog.cellsOf 25)) = some y1 := (hf 1 _ rfl).trans hy1
  rw [Tryz.cells25] at g1
  have e1 : ((cI c ++ [v]).drop 10).take 1 = [v] := by rw [List.drop_append_of_le_length (by rw [cI_len, hc]; exact Nat.le_refl _), List.drop_of_length_le (by rw [cI_len, hc]; exact Nat.le_refl _)]; rfl
  rw [e1] at g1
  have hz1 : ∀ n ∈ y1.1.weights Tryz.prog 25, n ≤ reachBytes := fun n hn => hz n (by
    simp only [DataW.weights, Tryz.underlying27]
    exact DataW.weights_mem_each (j := 1) rfl (by simp [hy1]) n hn)
  obtain ⟨ao, k, rfl, _, _⟩ := hv
  rcases open_slice Tryz.underlying25 g1 with ⟨hcs, hx⟩ | ⟨a, len, cap, m, n, D, Pl, hcs, _, hl, hm, hmm, hx, hel⟩
  · simp only [List.cons.injEq, Value.slice.injEq, and_true] at hcs
    omega
  · simp only [List.cons.injEq, Value.slice.injEq, and_true] at hcs
    have hlm : len ≤ m := by rw [hmm]; split <;> omega
    have := hz1 ((len + (m - len)) * 96) (by
      rw [hx]
      simp [DataW.weights, Tryz.underlying25, Tryz.bytes43])
    rw [reach_num] at this
    omega
end
end Go.Proofs.YtblojlaifnmimaaGreatDoor

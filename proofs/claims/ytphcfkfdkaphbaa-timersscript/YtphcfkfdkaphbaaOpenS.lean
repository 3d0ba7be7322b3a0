import Derived.Test.YtphcfkfdkaphbaaOpenA
namespace Go.Proofs.Ytphcfkfdkaphbaa
open Go.ChangeShapes Go.WideShapes Go.ChangeAt Go.RowKit Go.Deep Go.Joins
set_option linter.unusedVariables false

theorem Try.bytesOf40 : Try.prog.bytesOf 40 = 48 := by kernel_rfl
theorem reach_num : reachBytes = 140737488351232 := by decide
theorem weights_mem_all {H : Type} {P : Program} {e : TypeId} : ∀ {ds : List (DataW H)} {d : DataW H}, d ∈ ds → ∀ n ∈ d.weights P e, n ∈ DataW.weightsAll P e ds
  | x :: ds, d, hd, n, hn => by
    simp only [DataW.weightsAll, List.mem_append]
    rcases List.mem_cons.1 hd with rfl | hd
    · exact Or.inl hn
    · exact Or.inr (weights_mem_all hd n hn)
  | [], _, hd, _, _ => by cases hd
set_option maxRecDepth 100000 in
theorem name_weight {H : Type} (x : Ac) : x.name.size ∈ (actD (H := H) x).weights Try.prog 40 := by
  have e : (actD (H := H) x).weights Try.prog 40 = [x.name.data.toList.length] := by
    unfold actD
    rw [DataW.weights, Try.underlying40]
    simp only [List.map_cons, List.map_nil, DataW.weightsEach, DataW.weights, List.nil_append, List.append_nil]
  rw [e, Array.length_toList]
  exact List.mem_singleton.2 rfl
set_option maxRecDepth 100000 in
theorem open_actsS {H : Type} {enc : TypeId × Value → H} {W : World} {v : Value} {d : DataW H} {p : List MemPlace} (h : DataW.Trod enc Try.prog W 0 (fun _ => true) true 22 v d p) (hv : ∃ a l c, v = .slice a l c) (hz : ∀ n ∈ d.weights Try.prog 22, n ≤ reachBytes) :
    ∃ xs, ActsAt W v xs ∧ (∀ x ∈ xs, x.name.size ≤ maxLen) ∧ xs.length ≤ 2932031007317 := by
  obtain ⟨fuel, hf⟩ := h
  obtain ⟨a0, l0, c0, rfl⟩ := hv
  rcases open_slice Try.underlying22 hf with ⟨hcs, hx⟩ | ⟨a, len, cap, m, n, D, Pl, hcs, _, hl, hm, hmm, hx, hel⟩
  · simp [Value.cells] at hcs
    obtain ⟨rfl, rfl, rfl⟩ := hcs
    exact ⟨[], ⟨none, 0, rfl, by simp, Or.inl rfl⟩, by simp, by simp⟩
  · simp [Value.cells] at hcs
    obtain ⟨rfl, rfl, rfl⟩ := hcs
    have hlm : l0 ≤ m := by rw [hmm]; split <;> omega
    simp only [Prod.mk.injEq] at hx
    obtain ⟨rfl, _⟩ := hx
    have hw : l0 * 48 ≤ 140737488351232 := by
      have := hz ((l0 + (m - l0)) * 48) (by
        simp [DataW.weights, Try.underlying22, Try.bytesOf40])
      rw [reach_num] at this
      omega
    have each : ∀ i, i < l0 → ∃ x : Ac, D i = actD x ∧ D i = actD x ∧ ∀ j u, x.cells[j]? = some u → W.cell? (a.add (i * 5 + j)) = some u := by
      intro i hi
      obtain ⟨cs', h1, h2⟩ := hel i (by omega)
      rw [Try.cells40] at h1
      obtain ⟨_, hlen, hcell⟩ := World.cells?_some h1
      obtain ⟨y0, y1, y2, y3, y4, n', hxy, _, g0, g1, g2, g3, g4⟩ := trod_struct5 Try.underlying40 h2
      match cs', hlen with
      | [v0, v1, v2, v3, v4], _ =>
        simp only [Try.cells3, Try.cells9, List.drop_zero, List.drop_succ_cons, List.take_succ_cons, List.take_zero] at g0 g1 g2 g3 g4
        obtain ⟨k, e0, r0, w0⟩ := DataW.trod_int Try.underlying3 g0
        obtain ⟨nn, e1, r1, w1⟩ := DataW.trod_int Try.underlying3 g1
        obtain ⟨s, e2, r2, w2⟩ := DataW.trod_string Try.underlying9 g2
        obtain ⟨n3, e3, r3, w3⟩ := DataW.trod_int Try.underlying3 g3
        obtain ⟨n4, e4, r4, w4⟩ := DataW.trod_int Try.underlying3 g4
        simp only [List.cons.injEq, and_true] at e0 e1 e2 e3 e4
        subst e0 e1 e2 e3 e4 r0 r1 r2 r3 r4
        refine ⟨⟨k, nn, s, n3, n4⟩, ?_, ?_, fun j u hu => ?_⟩
        · simp only [Prod.mk.injEq] at hxy
          rw [hxy.1]
          rfl
        · simp only [Prod.mk.injEq] at hxy
          rw [hxy.1]
          rfl
        · have hj : j < 5 := by
            have := (List.getElem?_eq_some_iff.1 hu).1
            simpa [Ac.cells] using this
          have q := hcell j (by omega)
          rw [add_add] at q
          rw [q, ← hu]
          have : j = 0 ∨ j = 1 ∨ j = 2 ∨ j = 3 ∨ j = 4 := by omega
          rcases this with rfl | rfl | rfl | rfl | rfl <;> rfl
    haveI : Inhabited Ac := ⟨⟨0, 0, ⟨#[]⟩, 0, 0⟩⟩
    obtain ⟨f, hf'⟩ := choose_lt each
    refine ⟨(List.range l0).map f, ⟨some a, c0, by simp, by simp; omega, ?_⟩, ?_, ?_⟩
    · by_cases h0 : l0 = 0
      · left; simp [h0]
      · right
        have h00 := (hf' 0 (by omega)).2.2 0 _ rfl
        have hsp : a.spot = none := by
          have := World.cell?_spot h00
          simpa [Addr.add] using this
        obtain ⟨b, off, sp⟩ := a
        simp only at hsp
        subst hsp
        refine ⟨b, off, rfl, ?_, ?_⟩
        · have := World.block_lt_of_cell? W _ h00
          simpa [Addr.add] using this
        · intro i x hx j u hu
          simp only [List.getElem?_map] at hx
          by_cases hi : i < l0
          · simp [hi] at hx
            subst hx
            have := (hf' i hi).2.2 j u hu
            simpa [Addr.add_lit, Nat.add_assoc] using this
          · simp [hi] at hx
    · intro x hx
      obtain ⟨i, hi, rfl⟩ := List.mem_map.1 hx
      have hi' := List.mem_range.1 hi
      have e1 := (hf' i hi').1
      have := hz (f i).name.size (by
        simp only [DataW.weights, Try.underlying22, List.mem_cons, List.mem_append]
        refine Or.inr (Or.inl (weights_mem_all (List.mem_map_of_mem hi) _ ?_))
        rw [e1]
        exact name_weight _)
      rw [reach_num] at this
      unfold maxLen
      omega
    · simp only [List.length_map, List.length_range]
      omega
end Go.Proofs.Ytphcfkfdkaphbaa

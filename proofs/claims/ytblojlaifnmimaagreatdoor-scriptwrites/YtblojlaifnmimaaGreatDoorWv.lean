import Derived.Test.YtblojlaifnmimaaGreatDoorRq3
namespace Go.Proofs.YtblojlaifnmimaaGreatDoor
open Go.RowKit
set_option linter.unusedVariables false

theorem app_all {W : World} {v2 : Value} {v : Value} {ss : List Sp} {cs : List Comp} (A : All (spC v [] :: cs) W) (h2 : Sps W v2 ss) (hl : ss.length * 96 ≤ 140737488355328) :
    ∃ v' w', (Builtin.append_ #[25, 25] 25 #[v, v2]).run Tryz.prog W = .ok v' w' ∧ All (spC v' ss :: cs) w' := by
  obtain ⟨i1, hi1, hz0, hz1, hz2⟩ := info_parts Tryz.info43
  obtain ⟨ao2, c2, rfl, hc2, hx⟩ := h2
  have hlen : (ss.flatMap Sp.vals).length = ss.length * 10 := by
    clear hx hl hc2
    induction ss with
    | nil => rfl
    | cons s r ih => rw [List.flatMap_cons, List.length_append, ih, s.len, List.length_cons]; omega
  have hnews : 0 < ss.length → ∃ a, ao2 = some a ∧ ∀ j u, (ss.flatMap Sp.vals)[j]? = some u → W.cell? (a.add j) = some u := fun h0 => by
    obtain ⟨s0, hs0⟩ : ∃ s, ss[0]? = some s := ⟨_, List.getElem?_eq_getElem h0⟩
    obtain ⟨g, o, rfl, _, _⟩ := hx 0 s0 hs0
    refine ⟨_, rfl, fun j u hu => ?_⟩
    have hj : j < ss.length * 10 := by have := (List.getElem?_eq_some_iff.1 hu).1; omega
    obtain ⟨s, hs⟩ : ∃ s, ss[j / 10]? = some s := ⟨_, List.getElem?_eq_getElem (by omega)⟩
    obtain ⟨g', o', e, _, hr⟩ := hx (j / 10) s hs
    simp only [Option.some.injEq, Addr.mk.injEq, and_true] at e
    obtain ⟨rfl, rfl⟩ := e
    have key : ∀ (l : List Sp) (j : Nat) (s : Sp), l[j / 10]? = some s → (l.flatMap Sp.vals)[j]? = s.vals[j % 10]? := by
      intro l
      induction l with
      | nil => intro j s h; simp at h
      | cons x r ih =>
        intro j s h
        rw [List.flatMap_cons]
        by_cases hj : j < 10
        · have e0 : j / 10 = 0 := by omega
          rw [e0] at h
          simp only [List.getElem?_cons_zero, Option.some.injEq] at h
          subst h
          rw [List.getElem?_append_left (by rw [x.len]; exact hj), show j % 10 = j by omega]
        · rw [List.getElem?_append_right (by rw [x.len]; omega), x.len]
          have e1 : j / 10 = (j - 10) / 10 + 1 := by omega
          rw [e1, List.getElem?_cons_succ] at h
          rw [ih (j - 10) s h, show (j - 10) % 10 = j % 10 by omega]
    rw [key ss j s hs] at hu
    have := hr (j % 10) u hu
    rw [Addr.add_lit]
    rw [show o + j = o + j / 10 * 10 + j % 10 by omega]
    exact this
  have h1 : ∀ u ∈ ss.flatMap Sp.vals, u.oneCell' = true := fun u hu => by
    obtain ⟨s, _, h⟩ := List.mem_flatMap.1 hu
    exact s.one u h
  obtain ⟨ao, cap, w', hr, A2⟩ := appN (c := c2) (m := ss.length) Tryz.underlying25 hi1 hz0 hz1 hz2 rfl (by decide) A ao2 hlen hnews h1 (by unfold maxLen; simp; omega) (by simp; omega)
  refine ⟨_, w', hr, ?_⟩
  simp only [List.flatMap_nil, List.nil_append, List.length_nil, Nat.zero_add] at A2 ⊢
  exact A2
end Go.Proofs.YtblojlaifnmimaaGreatDoor

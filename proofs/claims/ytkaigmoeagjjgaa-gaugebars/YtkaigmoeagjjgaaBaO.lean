import Derived.Test.YtkaigmoeagjjgaaRfB
namespace Go.Proofs.Ytkaigmoeagjjgaa
open Go.RowKit
set_option linter.unusedVariables false

theorem bars_own {w : World} {l es : List Int} {E : Ending} {w' : World} (hl : l.length ≤ 4096) (he : es.length ≤ 4096) (h : BarPost l es w E w') : ∃ oo oc, E = .returned (.tuple #[.slice oo (barO l es).length oc, .int .i64 (barE l es)]) ∧ (barO l es).length ≤ oc ∧ All [ownC 3 (.slice oo (barO l es).length oc) (ints (barO l es)), inC w] w' := by
  rcases h with ⟨hr, x, rfl, hA⟩ | ⟨hr, rfl, hb⟩
  · have hE : barE l es = 0 := by unfold barE; rw [if_neg (by omega), if_pos (show es.Pairwise (· < ·) from hr)]
    have hO : barO l es = barsL l es := by unfold barO; rw [hE, if_pos rfl]
    rw [hO, hE]
    obtain ⟨oo, oc, e⟩ := (ints_of_all hA).form
    subst e
    exact ⟨oo, oc, rfl, (ints_of_all hA).cap.1, hA⟩
  · have hE : barE l es = 1 := by unfold barE; rw [if_neg (by omega), if_neg (show ¬ es.Pairwise (· < ·) from hr)]
    have hO : barO l es = [] := by unfold barO; rw [hE, if_neg (by decide)]
    rw [hO, hE]
    exact ⟨none, 0, rfl, Nat.le_refl _, ((All.came w).later hb).addNil⟩
theorem bars_many {w : World} {l es : List Int} {E : Ending} {w' : World} (hm : 4096 < l.length ∨ 4096 < es.length) (h : E = .returned (.tuple #[.slice none 0 0, .int .i64 220]) ∧ w' = w) : ∃ oo oc, E = .returned (.tuple #[.slice oo (barO l es).length oc, .int .i64 (barE l es)]) ∧ (barO l es).length ≤ oc ∧ All [ownC 3 (.slice oo (barO l es).length oc) (ints (barO l es)), inC w] w' := by
  obtain ⟨rfl, rfl⟩ := h
  have hE : barE l es = 220 := by unfold barE; rw [if_pos hm]
  have hO : barO l es = [] := by unfold barO; rw [hE, if_neg (by decide)]
  rw [hO, hE]
  exact ⟨none, 0, rfl, Nat.le_refl _, (All.came w').addNil⟩
theorem Bars_own {w : World} {v u : Value} {l es : List Int} (h : IntsAt w v l) (h2 : IntsAt w u es) : Calls Try.prog 17 #[v, u] w fun e w' => ∃ oo oc, e = .returned (.tuple #[.slice oo (barO l es).length oc, .int .i64 (barE l es)]) ∧ (barO l es).length ≤ oc ∧ All [ownC 3 (.slice oo (barO l es).length oc) (ints (barO l es)), inC w] w' := by
  by_cases hm : 4096 < l.length ∨ 4096 < es.length
  · obtain ⟨ao, c, rfl⟩ := h.form
    obtain ⟨bo, d, rfl⟩ := h2.form
    exact (Bars_many hm).mono fun e w' hh => bars_many hm hh
  · exact (Bars_any h h2 (by omega) (by omega)).mono fun e w' hh => bars_own (by omega) (by omega) hh
theorem rBars_own {w : World} {v u : Value} {l es : List Int} (h : IntsAt w v l) (h2 : IntsAt w u es) : Calls Try.prog 18 #[v, u] w fun e w' => ∃ oo oc, e = .returned (.tuple #[.slice oo (barO l es).length oc, .int .i64 (barE l es)]) ∧ (barO l es).length ≤ oc ∧ All [ownC 3 (.slice oo (barO l es).length oc) (ints (barO l es)), inC w] w' := by
  by_cases hm : 4096 < l.length ∨ 4096 < es.length
  · obtain ⟨ao, c, rfl⟩ := h.form
    obtain ⟨bo, d, rfl⟩ := h2.form
    exact (rBars_many hm).mono fun e w' hh => bars_many hm hh
  · exact (rBars_any h h2 (by omega) (by omega)).mono fun e w' hh => bars_own (by omega) (by omega) hh
theorem barO_len (l es : List Int) : (barO l es).length ≤ 4097 := by
  unfold barO
  by_cases h : barE l es = 0
  · rw [if_pos h, barsL_len]
    have : ¬ (4096 < l.length ∨ 4096 < es.length) := fun hm => by
      unfold barE at h; rw [if_pos hm] at h; exact absurd h (by decide)
    omega
  · rw [if_neg h]; simp
end Go.Proofs.Ytkaigmoeagjjgaa

import Derived.Test.YtkaigmoeagjjgaaSmo
import Derived.Test.YtkaigmoeagjjgaaShw
namespace Go.Proofs.Ytkaigmoeagjjgaa
open Go.RowKit
set_option linter.unusedVariables false

theorem own_at {t : TypeId} {oo : Option Addr} {n c : Nat} {vs : List Value} {cs : List Comp} {w : World} (h : All (ownC t (.slice oo n c) vs :: cs) w) {j : Nat} {z : Value} (hz : vs[j]? = some z) : ∃ g, oo = some ⟨g, 0, none⟩ ∧ w.cell? ⟨g, j, none⟩ = some z := by
  have h' : w.ownsRow 0 t 1 (.slice oo n c) vs.length vs := h.1.2.1
  rcases h'.2 with ⟨e, e2⟩ | ⟨g, cap, cur, e, hg0, hg, hn', hm, hcs, ht⟩
  · have := (List.getElem?_eq_some_iff.1 hz).1
    omega
  · simp only [Value.slice.injEq] at e
    obtain ⟨rfl, _, rfl⟩ := e
    refine ⟨g, rfl, ?_⟩
    rw [cell_at hg]
    rw [← ht, List.getElem?_take] at hz
    split at hz
    · simpa using hz
    · cases hz
theorem own_cap {t : TypeId} {oo : Option Addr} {n c : Nat} {vs : List Value} {cs : List Comp} {w : World} (h : All (ownC t (.slice oo n c) vs :: cs) w) : n ≤ c ∧ n = vs.length := by
  have h' : w.ownsRow 0 t 1 (.slice oo n c) vs.length vs := h.1.2.1
  rcases h'.2 with ⟨e, e2⟩ | ⟨g, cap, cur, e, hg0, hg, hn', hm, hcs, ht⟩
  · simp only [Value.slice.injEq] at e; omega
  · simp only [Value.slice.injEq] at e; omega

theorem bdN' (n : Nat) (w : World) (q : Nat) : Below n w (w.drewN q) := ⟨rfl, rfl, rfl, Nat.le_refl _, fun _ _ => rfl⟩
def W1 : Nat := 4607182418800017408
theorem isP_one : isP W1 = true := by decide +kernel
theorem getD_at {l : List Int} {k : Nat} {x : Int} (h : l[k]? = some x) : l.getD k 0 = x := by simp [List.getD, h]
end Go.Proofs.Ytkaigmoeagjjgaa

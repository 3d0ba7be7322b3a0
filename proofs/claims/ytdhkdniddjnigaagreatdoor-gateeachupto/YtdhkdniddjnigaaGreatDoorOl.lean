import Derived.Test.YtdhkdniddjnigaaGreatDoorSpLaw
import Derived.Test.YtdhkdniddjnigaaGreatDoorJoin2
namespace Go.Proofs.YtdhkdniddjnigaaGreatDoor
open Go.RowKit
set_option linter.unusedVariables false

theorem splitW_ok {l : List UInt8} {ws : Ws} (h : splitW l = .ok ws) : l.length ≤ 8192 ∧ runW .ahead [] 0 l = .ok ws := by
  unfold splitW at h
  split at h
  · simp at h
  · exact ⟨by omega, h⟩
theorem err_ok {A : Ans} (h : A.err = 0) : A = .ok A.ws := by
  cases A <;> simp [Ans.err] at h <;> rfl
/-- A line's words are not longer than the line. -/
theorem lenJ_wsz (ws : Ws) : lenJ ws ≤ 16 * wsz ws := by
  unfold lenJ wsz
  induction ws with
  | nil => simp
  | cons x r ih => simp only [List.map_cons, List.sum_cons, List.length_cons] at ih ⊢; omega
theorem finW_wsz (s : St) (ws : Ws) (k : Nat) : wsz (finW s ws k).ws ≤ s.held + wsz ws := by
  cases s <;> simp [finW, Ans.ws, St.held, wsz] <;> omega
theorem runW_wsz : ∀ (t : List UInt8) (s : St) (ws : Ws) (k : Nat), wsz (runW s ws k t).ws ≤ s.held + wsz ws + 2 * t.length
  | [], s, ws, k => by rw [runW]; exact Nat.le_trans (finW_wsz s ws k) (by simp)
  | b :: t, s, ws, k => by
    rw [runW]
    cases hs : stepW s ws k b with
    | go s' ws' =>
      simp only
      have h1 := runW_wsz t s' ws' (k + 1)
      have h2 := stepW_held hs
      simp only [List.length_cons]
      omega
    | bad j => simp [Ans.ws, wsz]

end Go.Proofs.YtdhkdniddjnigaaGreatDoor

import Derived.Test.YtdhkdniddjnigaaGreatDoorSplit
import Derived.Test.YtdhkdniddjnigaaGreatDoorRs
namespace Go.Proofs.YtdhkdniddjnigaaGreatDoor
open Go.RowKit
set_option linter.unusedVariables false

theorem Split_any {l : List UInt8} {cs : List Comp} {w : World} (h : All cs w) (hl : l.length ≤ 140737488355328) : Calls Tryz.prog 121 #[.string ⟨l.toArray⟩] w (SplitPost (splitW l) cs) := by
  unfold splitW
  by_cases h8 : 8192 < l.length
  · rw [if_pos h8]; exact Split_long h h8 hl
  · rw [if_neg h8]; exact Split_short h (by omega)
theorem rSplit_any {l : List UInt8} {cs : List Comp} {w : World} (h : All cs w) (hl : l.length ≤ 140737488355328) : Calls Tryz.prog 103 #[.string ⟨l.toArray⟩] w (SplitPost (splitW l) cs) := by
  unfold splitW
  by_cases h8 : 8192 < l.length
  · rw [if_pos h8]; exact rSplit_long h h8 hl
  · rw [if_neg h8]; exact rSplit_short h (by omega)
theorem finW_size (s : St) (ws : Ws) (k : Nat) : (finW s ws k).ws.length ≤ s.held + wsz ws := by
  cases s <;> simp [finW, Ans.ws, St.held, wsz] <;> omega
theorem runW_size : ∀ (t : List UInt8) (s : St) (ws : Ws) (k : Nat), (runW s ws k t).ws.length ≤ s.held + wsz ws + 2 * t.length
  | [], s, ws, k => by rw [runW]; exact Nat.le_trans (finW_size s ws k) (by simp)
  | b :: t, s, ws, k => by
    rw [runW]
    cases hs : stepW s ws k b with
    | go s' ws' =>
      simp only
      have h1 := runW_size t s' ws' (k + 1)
      have h2 := stepW_held hs
      simp only [List.length_cons]
      omega
    | bad j => simp [Ans.ws]
theorem splitW_size (l : List UInt8) : (splitW l).ws.length ≤ 16384 := by
  unfold splitW
  by_cases h8 : 8192 < l.length
  · rw [if_pos h8]; simp [Ans.ws]
  · rw [if_neg h8]
    have := runW_size l .ahead [] 0
    simp only [St.held, wsz, List.length_nil, List.map_nil, List.sum_nil] at this
    omega

end Go.Proofs.YtdhkdniddjnigaaGreatDoor

import Derived.Test.YtdhkdniddjnigaaGreatDoorChkA
import Derived.Test.YtdhkdniddjnigaaGreatDoorDig
import Derived.Test.YtdhkdniddjnigaaGreatDoorSpLaw
import Derived.Test.YtdhkdniddjnigaaGreatDoorRJoin
namespace Go.Proofs.YtdhkdniddjnigaaGreatDoor
open Go.RowKit
set_option linter.unusedVariables false

/-- Where a word stands in a list from a place on. -/
def findW (x : List UInt8) : Nat → Ws → Option Nat
  | _, [] => none
  | k, y :: r => if y = x then some k else findW x (k + 1) r
theorem findW_at {x : List UInt8} {k : Nat} {l : Ws} (hk : k < l.length) : findW x k (l.drop k) = if l.getD k [] = x then some k else findW x (k + 1) (l.drop (k + 1)) := by
  rw [List.drop_eq_getElem_cons hk, findW]
  simp [List.getD, hk]
/-- A place, or -1. -/
def idxI (o : Option Nat) : Int := match o with | none => -1 | some k => (k : Int)
/-- Texts laid behind one's own. -/
theorem appR {W : World} {v v2 : Value} {l l2 : Ws} {cs : List Comp} (A : All (ownC 9 v (txW l) :: cs) W) (h2 : Rt W v2 l2) (hl : (l.length + l2.length) * 16 ≤ 140737488355328) :
    ∃ ao c w', (Builtin.append_ #[43, 43] 43 #[v, v2]).run Tryz.prog W = .ok (.slice ao (l.length + l2.length) c) w' ∧ All (ownC 9 (.slice ao (l.length + l2.length) c) (txW (l ++ l2)) :: cs) w' := by
  obtain ⟨i1, hi1, hz0, hz1, hz2⟩ := info_parts Tryz.info9
  obtain ⟨ao2, c2, rfl, hc2, hx⟩ := h2
  have hown : W.ownsRow 0 9 1 v (txW l).length (txW l) := A.1.2.1
  obtain ⟨ao, c, rfl⟩ := owns_form hown
  have e1 : txW (l ++ l2) = txW l ++ txW l2 := by simp [txW]
  rcases hx with rfl | ⟨g, o, rfl, hg, hcell⟩
  · refine ⟨ao, c, W, ?_, ?_⟩
    · have := run_append_nothing W 43 43 43 9 i1 Tryz.underlying43 hi1 ao (txW l).length c (owns_len hown).2 (.slice ao2 0 c2) (srcNil Tryz.underlying43 ao2 c2)
      simpa [txW_length] using this
    · rw [txW_length] at A
      simpa using A
  · have k1 : (txW l).length + l2.length ≤ maxLen := by rw [txW_length]; unfold maxLen; omega
    have k2 : ((txW l).length + l2.length) * 16 ≤ 140737488355328 := by rw [txW_length]; omega
    have k3 : (txW l2).length = l2.length * 1 := by rw [txW_length]; omega
    have k4 : ∀ u ∈ txW l2, u.oneCell' = true := fun u hu => by
      obtain ⟨y, _, rfl⟩ := List.mem_map.1 hu
      rfl
    obtain ⟨v', w', hr, h2, h3, h4, h5⟩ := run_append_own_at (P := Tryz.prog) W 0 43 43 9 i1 (.string ⟨#[]⟩) 1 16 Tryz.underlying43 hi1 hz0 hz1 hz2 rfl (by decide) (.slice ao (txW l).length c) (txW l).length (txW l) hown ⟨g, o, none⟩ l2.length c2 (txW l2) k3
      (fun j u hu => by
        have hj : j < l2.length := by rw [← txW_length]; exact (List.getElem?_eq_some_iff.1 hu).1
        rw [Addr.add_lit, hcell j hj, ← hu]
        simp [txW, hj]) k4 k1 k2 (Nat.zero_le _)
    obtain ⟨ao', c', rfl⟩ := owns_form h2
    have el : (txW l).length + l2.length = l.length + l2.length := by rw [txW_length]
    rw [el] at hr h2 h5
    refine ⟨ao', c', w', hr, A.ownGrow (vs' := txW (l ++ l2)) (base := 0) ?_ h3 h5⟩
    rw [e1, List.length_append, txW_length, txW_length]
    exact h2
theorem own_new {W : World} {cs : List Comp} (A : All cs W) (m : Ws) (hm : m.length ≤ 1000) : All (ownC 9 (.slice (some ⟨W.heap.size, 0, none⟩) m.length m.length) (txW m) :: cs) (W.alloc (.cells (txW m).toArray 9)) := by
  refine A.addOwn (ba W _) ⟨by simp, Or.inr ⟨W.heap.size, m.length, (txW m).toArray, by rw [txW_length], Nat.le_refl _, heap_alloc_new W _, by rw [txW_length]; omega, by unfold maxLen; omega, by simp [txW_length], by simp⟩⟩

set_option maxRecDepth 1000000 in
/-- A list of its own of a word and those behind it. -/
theorem row_any {x : List UInt8} {v : Value} {l : Ws} {cs : List Comp} {w : World} (A : All cs w) (h : Rt w v l) (hl : (1 + l.length) * 16 ≤ 140737488355328) :
    Calls Tryz.prog 99 #[.string ⟨x.toArray⟩, v] w fun e w' => ∃ ao c, e = .returned (.slice ao (1 + l.length) c) ∧ All (ownC 9 (.slice ao (1 + l.length) c) (txW (x :: l)) :: cs) w' := by
  obtain ⟨ao, c, w', hr, A2⟩ := appR (own_new A [x] (by simp)) (h.later (ba w _)) (by simpa using hl)
  obtain ⟨ao0, c0, rfl⟩ := h.form
  have R : Hid ((Builtin.append_ #[43, 43] 43 #[.slice (some ⟨w.heap.size, 0, none⟩) 1 1, .slice ao0 l.length c0]).run Tryz.prog (w.alloc (.cells #[.string ⟨x.toArray⟩] 9)) = .ok (.slice ao (1 + l.length) c) w') := hid hr
  have B := hid A2
  clear hr A2 A h hl
  generalize hn : l.length = n at *
  clear hn
  generalize ByteArray.mk x.toArray = X at *
  go_enter Tryz.func99, Tryz.ntmps99
  go_wp2_with (at_builtin; refine wpList_append_run rfl _ _ 43 rfl _ _ _ _ rfl rfl R.out ?_)
  go_ret
  exact ⟨ao, c, rfl, B.out⟩

end Go.Proofs.YtdhkdniddjnigaaGreatDoor

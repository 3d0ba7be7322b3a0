import Derived.Test.YtgmjjopfpenceaaRJoin
import Derived.Test.YtgmjjopfpenceaaSpLaw
namespace Go.Proofs.Ytgmjjopfpenceaa
open Go.RowKit
set_option linter.unusedVariables false

/-- Texts laid behind one's own. -/
theorem appR {W : World} {v v2 : Value} {l l2 : Ws} {cs : List Comp} (A : All (ownC 9 v (txW l) :: cs) W) (h2 : Rt W v2 l2) (hl : l.length + l2.length ≤ 1000000000000) :
    ∃ ao c w', (Builtin.append_ #[22, 22] 22 #[v, v2]).run Try.prog W = .ok (.slice ao (l.length + l2.length) c) w' ∧ All (ownC 9 (.slice ao (l.length + l2.length) c) (txW (l ++ l2)) :: cs) w' := by
  obtain ⟨i1, hi1, hz0, hz1, hz2⟩ := info_parts Try.info9
  obtain ⟨ao2, c2, rfl, hc2, hx⟩ := h2
  have hown : W.ownsRow 0 9 1 v (txW l).length (txW l) := A.1.2.1
  obtain ⟨ao, c, rfl⟩ := owns_form hown
  have e1 : txW (l ++ l2) = txW l ++ txW l2 := by simp [txW]
  rcases hx with rfl | ⟨g, o, rfl, hg, hcell⟩
  · refine ⟨ao, c, W, ?_, ?_⟩
    · have := run_append_nothing W 22 22 22 9 i1 Try.underlying22 hi1 ao (txW l).length c (owns_len hown).2 (.slice ao2 0 c2) (srcNil Try.underlying22 ao2 c2)
      simpa [txW_length] using this
    · rw [txW_length] at A
      simpa using A
  · have k1 : (txW l).length + l2.length ≤ maxLen := by rw [txW_length]; unfold maxLen; omega
    have k2 : ((txW l).length + l2.length) * 16 ≤ 140737488355328 := by rw [txW_length]; omega
    have k3 : (txW l2).length = l2.length * 1 := by rw [txW_length]; omega
    have k4 : ∀ u ∈ txW l2, u.oneCell' = true := fun u hu => by
      obtain ⟨y, _, rfl⟩ := List.mem_map.1 hu
      rfl
    obtain ⟨v', w', hr, h2, h3, h4, h5⟩ := run_append_own_at (P := Try.prog) W 0 22 22 9 i1 (.string ⟨#[]⟩) 1 16 Try.underlying22 hi1 hz0 hz1 hz2 rfl (by decide) (.slice ao (txW l).length c) (txW l).length (txW l) hown ⟨g, o, none⟩ l2.length c2 (txW l2) k3
      (fun j u hu => by
        have hj : j < l2.length := by rw [← txW_length]; exact (List.getElem?_eq_some_iff.1 hu).1
        rw [Addr.add_lit, hcell j hj, ← hu]
        simp [txW, hj]) k4 k1 k2 (Nat.zero_le _)
    obtain ⟨ao', c', rfl⟩ := owns_form h2
    have el : (txW l).length + l2.length = l.length + l2.length := by rw [txW_length]
    rw [el] at hr h2 h5
    refine ⟨ao', c', w', hr, A.ownGrow (vs' := txW (l ++ l2)) (base := 0) ?_ h3 h5⟩
    rw [e1, List.length_append, txW_length, txW_length]
    exact h2

set_option maxHeartbeats 3200000 in
set_option maxRecDepth 1000000 in
theorem join_law {s : Value} {ws : Ws} {w : World} (hs : Rt w s ws) (hn : ws.length ≤ 100000000000) (hl : lenJ ws ≤ 10000000000000) :
    Calls Try.prog 4 #[s] w fun e w' => e = .returned (.bool true) ∧ Below w.heap.size w w' := by
  obtain ⟨ao, c, rfl⟩ := hs.form
  have HS := hid hs
  obtain ⟨ao1, c1, w1, hr, A1⟩ := appR (l := []) (All.addNil (e := 9) (All.came w)) hs (by simp; omega)
  simp only [List.length_nil, Nat.zero_add, List.nil_append] at hr A1
  have R := hid hr
  have B1 := hid A1
  have JN : Hid (∀ (v : Value) (W : World), Rt W v ws → Calls Try.prog 11 #[v] W fun e w' => e = .returned (.string ⟨(joinW ws).toArray⟩) ∧ Below W.heap.size W w') := hid (fun v W h => Join_any h (by omega) (by omega))
  have RJ : Hid (∀ (v : Value) (W : World), Rt W v ws → Calls Try.prog 12 #[v] W fun e w' => e = .returned (.string ⟨(joinW ws).toArray⟩) ∧ Below W.heap.size W w') := hid (fun v W h => rJoin_any h (by omega) hl)
  have TX : Hid (∀ (v v2 : Value) (W : World), Rt W v ws → Rt W v2 ws → Calls Try.prog 7 #[v, v2] W fun e w' => e = .returned (.bool true) ∧ ∃ q, w' = W.drewN q) := hid (fun v v2 W h h2 => texts_same h h2 (by omega))
  have hjl : (joinW ws).length ≤ 10000000000000 := by
    have := joinW_len ws ws.length (Nat.le_refl _)
    rw [List.take_length] at this
    omega
  have SP : Hid (∀ (cs : List Comp) (W : World), All cs W → Calls Try.prog 6 #[.string ⟨(joinW ws).toArray⟩] W (SplitPost (splitW (joinW ws)) cs)) := hid (fun cs W h => Split_any h (by omega))
  have ne : ((⟨(joinW ws).toArray⟩ : ByteArray).toList != (⟨(joinW ws).toArray⟩ : ByteArray).toList) = false := by simp
  have hz := ba_size (joinW ws)
  have e1 : splitW (joinW ws) = if 8192 < (joinW ws).length then .long else .ok ws := by
    unfold splitW
    rw [run_join]
  rw [e1] at SP
  clear e1 hr A1 hs hl
  generalize (joinW ws).length = m at *
  generalize ByteArray.mk (joinW ws).toArray = J at *
  by_cases h8 : 8192 < m
  · rw [if_pos h8] at SP
    have h8' : (8192 : Int) < m := by omega
    generalize hnw : ws.length = n at *
    clear hnw
    unfold SplitPost at SP
    simp only [Ans.ws, Ans.at, Ans.err] at SP
    go_enter Try.func4, Try.ntmps4
    go_wp2_with (at_builtin; refine wpList_append_run rfl _ _ 22 rfl _ _ _ _ rfl rfl R.out ?_; refine Hid.out ?_)
    refine hid ?_
    have Q1 := hid (JN.out _ w1 (rt_own B1.out))
    go_wp2_with (go_at_call 11; refine Q1.out.mono ?_; rintro e w2 ⟨rfl, b2⟩; have B2 := hid (B1.out.later b2); clear b2; refine Hid.out ?_)
    refine hid ?_
    have Q2 := hid (RJ.out _ w2 (HS.out.later (B2.out.into (w0 := w) (by simp))))
    go_wp2_with (go_at_call 12; refine Q2.out.mono ?_; rintro e w3 ⟨rfl, b3⟩; have B3 := hid (B2.out.later b3); clear b3; refine Hid.out ?_)
    refine hid ?_
    have T1 := hid (TX.out _ _ w3 (rt_own B3.out) (HS.out.later (B3.out.into (w0 := w) (by simp))))
    clear B1 B2 Q1 Q2
    go_wp2_with (go_at_call 7; refine T1.out.mono ?_; rintro e w4 ⟨rfl, q4, rfl⟩; have B4 := hid (B3.out.drewN q4); refine Hid.out ?_)
    refine hid ?_
    clear B3 T1
    generalize hw4 : (World.drewN _ q4) = w4 at *
    clear hw4
    go_wp2_with (go_at_call 6; refine (SP.out _ _ B4.out).mono ?_; rintro e w5 ⟨v6, rfl, A5⟩; have B5 := hid A5; clear A5; refine Hid.out ?_)
    refine hid ?_
    clear B4
    obtain ⟨ao6, c6, rfl⟩ := own9 B5.out
    have fin := hid (B5.out.into (w0 := w) (by simp))
    clear B5
    go_wp2
    go_ret
    exact ⟨rfl, fin.out⟩
  · rw [if_neg h8] at SP
    have h8' : ¬ (8192 : Int) < m := by omega
    generalize hnw : ws.length = n at *
    have HNW := hid hnw
    clear hnw
    unfold SplitPost at SP
    simp only [Ans.ws, Ans.at, Ans.err] at SP
    go_enter Try.func4, Try.ntmps4
    go_wp2_with (at_builtin; refine wpList_append_run rfl _ _ 22 rfl _ _ _ _ rfl rfl R.out ?_; refine Hid.out ?_)
    refine hid ?_
    have Q1 := hid (JN.out _ w1 (rt_own B1.out))
    go_wp2_with (go_at_call 11; refine Q1.out.mono ?_; rintro e w2 ⟨rfl, b2⟩; have B2 := hid (B1.out.later b2); clear b2; refine Hid.out ?_)
    refine hid ?_
    have Q2 := hid (RJ.out _ w2 (HS.out.later (B2.out.into (w0 := w) (by simp))))
    go_wp2_with (go_at_call 12; refine Q2.out.mono ?_; rintro e w3 ⟨rfl, b3⟩; have B3 := hid (B2.out.later b3); clear b3; refine Hid.out ?_)
    refine hid ?_
    have T1 := hid (TX.out _ _ w3 (rt_own B3.out) (HS.out.later (B3.out.into (w0 := w) (by simp))))
    clear B1 B2 Q1 Q2
    go_wp2_with (go_at_call 7; refine T1.out.mono ?_; rintro e w4 ⟨rfl, q4, rfl⟩; have B4 := hid (B3.out.drewN q4); refine Hid.out ?_)
    refine hid ?_
    clear B3 T1
    generalize hw4 : (World.drewN _ q4) = w4 at *
    clear hw4
    go_wp2_with (go_at_call 6; refine (SP.out _ _ B4.out).mono ?_; rintro e w5 ⟨v6, rfl, A5⟩; have B5 := hid A5; clear A5; refine Hid.out ?_)
    refine hid ?_
    clear B4
    obtain ⟨ao6, c6, rfl⟩ := own9 B5.out
    have T2 := hid (TX.out _ _ w5 (rt_own B5.out) (HS.out.later (B5.out.into (w0 := w) (by simp))))
    have fin := hid (B5.out.into (w0 := w) (by simp))
    clear B5
    rw [HNW.out] at *
    go_wp2_with (go_at_call 7; refine T2.out.mono ?_; rintro e w6 ⟨rfl, q6, rfl⟩; have fin6 := hid (fin.out.trans ((bdN w5 q6).mono fin.out.size)); refine Hid.out ?_)
    refine hid ?_
    go_wp2
    go_ret
    exact ⟨rfl, fin6.out⟩
end Go.Proofs.Ytgmjjopfpenceaa

import Derived.Test.YtgmjjopfpenceaaSpLaw
import Derived.Test.YtgmjjopfpenceaaJoin2
import Derived.Test.YtgmjjopfpenceaaSing
namespace Go.Proofs.Ytgmjjopfpenceaa
open Go.RowKit
set_option linter.unusedVariables false

theorem splitW_ok {l : List UInt8} {ws : Ws} (h : splitW l = .ok ws) : l.length ≤ 8192 ∧ runW .ahead [] 0 l = .ok ws := by
  unfold splitW at h
  split at h
  · simp at h
  · exact ⟨by omega, h⟩
theorem err_ok {A : Ans} (h : A.err = 0) : A = .ok A.ws := by
  cases A <;> simp [Ans.err] at h <;> rfl
/-- A line's words are not longer than the line. -/
theorem lenJ_wsz (ws : Ws) : lenJ ws ≤ 16 * wsz ws := by
  unfold lenJ wsz
  induction ws with
  | nil => simp
  | cons x r ih => simp only [List.map_cons, List.sum_cons, List.length_cons] at ih ⊢; omega
theorem finW_wsz (s : St) (ws : Ws) (k : Nat) : wsz (finW s ws k).ws ≤ s.held + wsz ws := by
  cases s <;> simp [finW, Ans.ws, St.held, wsz] <;> omega
theorem runW_wsz : ∀ (t : List UInt8) (s : St) (ws : Ws) (k : Nat), wsz (runW s ws k t).ws ≤ s.held + wsz ws + 2 * t.length
  | [], s, ws, k => by rw [runW]; exact Nat.le_trans (finW_wsz s ws k) (by simp)
  | b :: t, s, ws, k => by
    rw [runW]
    cases hs : stepW s ws k b with
    | go s' ws' =>
      simp only
      have h1 := runW_wsz t s' ws' (k + 1)
      have h2 := stepW_held hs
      simp only [List.length_cons]
      omega
    | bad j => simp [Ans.ws, wsz]

set_option maxHeartbeats 3200000 in
set_option maxRecDepth 1000000 in
theorem one_law {l : List UInt8} {w : World} (hl : l.length ≤ 140737488355328) :
    Calls Try.prog 5 #[.string ⟨l.toArray⟩] w fun e w' => e = .returned (.bool true) ∧ Below w.heap.size w w' := by
  have J0 := hid (Join_any (rt_two w [120] []) (by simp) (by simp [lenJ]))
  have e0 : (joinW [[120], []]) = [120, 32, 34, 34] := by rfl
  rw [e0] at J0
  have ne0 : ((⟨#[120, 32, 34, 34]⟩ : ByteArray).toList != (⟨#[120, 32, 34, 34]⟩ : ByteArray).toList) = false := by simp
  have b0 := hid (ba w (.cells #[.string ⟨#[120]⟩, .string ⟨#[]⟩] 9))
  have SP : Hid (∀ (cs : List Comp) (W : World), All cs W → Calls Try.prog 6 #[.string ⟨l.toArray⟩] W (SplitPost (splitW l) cs)) := hid (fun cs W h => Split_any h hl)
  cases hA : splitW l with
  | ok ws =>
    obtain ⟨h8, hrun⟩ := splitW_ok hA
    rw [hA] at SP
    have SG : Hid (∀ W, Calls Try.prog 13 #[.string ⟨l.toArray⟩] W fun e w' => e = .returned (.string ⟨(joinW ws).toArray⟩) ∧ Below W.heap.size W w') := hid (fun W => by
      rw [← single_join hrun]
      exact single_any h8)
    have hz := runW_wsz l .ahead [] 0
    rw [hrun] at hz
    simp only [Ans.ws, St.held, wsz, List.length_nil, List.map_nil, List.sum_nil] at hz
    have hz2 := lenJ_wsz ws
    have JN : Hid (∀ s W, Rt W s ws → Calls Try.prog 11 #[s] W fun e w' => e = .returned (.string ⟨(joinW ws).toArray⟩) ∧ Below W.heap.size W w') := hid (fun s W hs => Join_any hs (by omega) (by unfold wsz at hz2; omega))
    unfold SplitPost at SP
    simp only [Ans.ws, Ans.at, Ans.err] at SP
    have eqJ : ((⟨(joinW ws).toArray⟩ : ByteArray).toList == (⟨(joinW ws).toArray⟩ : ByteArray).toList) = true := by simp
    clear hz hz2 hrun h8 hA hl
    generalize ByteArray.mk (joinW ws).toArray = J at *
    generalize ByteArray.mk l.toArray = L at *
    go_enter Try.func5, Try.ntmps5
    go_wp2_with (go_at_call 11; refine J0.out.mono ?_; rintro e w1 ⟨rfl, B1⟩; have A1 := hid ((All.came w).later (b0.out.trans (B1.mono (by simp)))); clear B1; refine Hid.out ?_)
    refine hid ?_
    go_wp2_with (go_at_call 6; refine (SP.out _ _ A1.out).mono ?_; rintro e w2 ⟨v, rfl, A2⟩; have B2 := hid A2; clear A2; refine Hid.out ?_)
    refine hid ?_
    obtain ⟨ao, c, rfl⟩ := own9 B2.out
    have Q := hid (JN.out _ w2 (rt_own B2.out))
    have fin2 := hid (B2.out.into (w0 := w) (by simp))
    clear B2 A1
    generalize ws.length = n at *
    go_wp2_with (go_at_call 11; refine Q.out.mono ?_; rintro e w3 ⟨rfl, B3⟩; have fin3 := hid (fin2.out.trans (B3.mono fin2.out.size)); clear B3; refine Hid.out ?_)
    refine hid ?_
    go_wp2_with (go_at_call 13; refine (SG.out _).mono ?_; rintro e w4 ⟨rfl, B4⟩; have fin4 := hid (fin3.out.trans (B4.mono fin3.out.size)); clear B4; refine Hid.out ?_)
    refine hid ?_
    go_wp2
    go_ret
    exact ⟨rfl, fin4.out⟩
  | byte k =>
    rw [hA] at SP
    unfold SplitPost at SP
    simp only [Ans.ws, Ans.at, Ans.err] at SP
    clear hA hl
    generalize ByteArray.mk l.toArray = L at *
    go_enter Try.func5, Try.ntmps5
    go_wp2_with (go_at_call 11; refine J0.out.mono ?_; rintro e w1 ⟨rfl, B1⟩; have A1 := hid ((All.came w).later (b0.out.trans (B1.mono (by simp)))); clear B1; refine Hid.out ?_)
    refine hid ?_
    go_wp2_with (go_at_call 6; refine (SP.out _ _ A1.out).mono ?_; rintro e w2 ⟨v, rfl, A2⟩; have fin2 := hid (A2.into (w0 := w) (by simp)); clear A2; refine Hid.out ?_)
    refine hid ?_
    go_wp2
    go_ret
    exact ⟨rfl, fin2.out⟩
  | stop k =>
    rw [hA] at SP
    unfold SplitPost at SP
    simp only [Ans.ws, Ans.at, Ans.err] at SP
    clear hA hl
    generalize ByteArray.mk l.toArray = L at *
    go_enter Try.func5, Try.ntmps5
    go_wp2_with (go_at_call 11; refine J0.out.mono ?_; rintro e w1 ⟨rfl, B1⟩; have A1 := hid ((All.came w).later (b0.out.trans (B1.mono (by simp)))); clear B1; refine Hid.out ?_)
    refine hid ?_
    go_wp2_with (go_at_call 6; refine (SP.out _ _ A1.out).mono ?_; rintro e w2 ⟨v, rfl, A2⟩; have fin2 := hid (A2.into (w0 := w) (by simp)); clear A2; refine Hid.out ?_)
    refine hid ?_
    go_wp2
    go_ret
    exact ⟨rfl, fin2.out⟩
  | long =>
    rw [hA] at SP
    unfold SplitPost at SP
    simp only [Ans.ws, Ans.at, Ans.err] at SP
    clear hA hl
    generalize ByteArray.mk l.toArray = L at *
    go_enter Try.func5, Try.ntmps5
    go_wp2_with (go_at_call 11; refine J0.out.mono ?_; rintro e w1 ⟨rfl, B1⟩; have A1 := hid ((All.came w).later (b0.out.trans (B1.mono (by simp)))); clear B1; refine Hid.out ?_)
    refine hid ?_
    go_wp2_with (go_at_call 6; refine (SP.out _ _ A1.out).mono ?_; rintro e w2 ⟨v, rfl, A2⟩; have fin2 := hid (A2.into (w0 := w) (by simp)); clear A2; refine Hid.out ?_)
    refine hid ?_
    go_wp2
    go_ret
    exact ⟨rfl, fin2.out⟩
end Go.Proofs.Ytgmjjopfpenceaa

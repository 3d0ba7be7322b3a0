import Derived.Test.YtgmjjopfpenceabDoorE6
namespace Go.Proofs.YtgmjjopfpenceabDoor
open Go.RowKit
set_option linter.unusedVariables false

theorem findW_some {x : List UInt8} : ∀ {l : Ws} {k j : Nat}, findW x k l = some j → k ≤ j ∧ j < k + l.length ∧ l.getD (j - k) [] = x
  | [], k, j, h => by simp [findW] at h
  | y :: r, k, j, h => by
    rw [findW] at h
    split at h
    · rename_i hy
      simp only [Option.some.injEq] at h
      subst h
      exact ⟨Nat.le_refl _, by simp, by simp [hy]⟩
    · obtain ⟨h1, h2, h3⟩ := findW_some h
      refine ⟨by omega, by simp only [List.length_cons]; omega, ?_⟩
      have : j - k = (j - (k + 1)) + 1 := by omega
      rw [this, List.getD_cons_succ]
      exact h3
theorem codeW_some {x : List UInt8} {j : Nat} (h : codeW x = some j) : j < 5 ∧ cdN.getD j [] = x := by
  obtain ⟨h1, h2, h3⟩ := findW_some h
  exact ⟨by simpa [cdN] using h2, by simpa using h3⟩
theorem codeW_at {c : Nat} (h : c < 5) : codeW (cdN.getD c []) = some c := by
  obtain rfl | rfl | rfl | rfl | rfl : c = 0 ∨ c = 1 ∨ c = 2 ∨ c = 3 ∨ c = 4 := by omega
  all_goals rfl
theorem chk_small {c : Int} (h0 : 0 ≤ c) (h4 : c ≤ 4) : chkW c 0 [] = 0 := by
  unfold chkW chkX
  rw [if_neg (by omega), if_neg (by simp), if_neg (by omega), if_neg (by simp), if_neg (by simp)]
/-- What is read well is what is written. -/
theorem readR_ok {l : Ws} (h : (readR l).e = 0) : chkW (readR l).c (readR l).n (readR l).items = 0 ∧ resA (readR l).c (readR l).n (readR l).items = l.take (readR l).k ∧ (readR l).k ≤ l.length := by
  cases l with
  | nil => simp [readR, RR.bad] at h
  | cons x r =>
    cases hc : codeW x with
    | none =>
      have e : readR (x :: r) = .bad 163 := by unfold readR; simp only [hc]
      rw [e] at h; simp [RR.bad] at h
    | some j =>
      obtain ⟨hj, hx⟩ := codeW_some hc
      cases j with
      | succ j =>
        have e : readR (x :: r) = ⟨(j : Int) + 1, 0, [], 1, 0⟩ := by unfold readR; simp only [hc]
        rw [e]
        have hk : chkW ((j : Int) + 1) 0 [] = 0 := chk_small (by omega) (by omega)
        refine ⟨hk, ?_, by simp⟩
        simp only
        unfold resA
        rw [hk, if_neg (by simp)]
        have : ((j : Int) + 1).toNat = j + 1 := by omega
        rw [this]
        unfold resW
        rw [if_neg (by omega), hx]
        simp
      | zero =>
        have e : readR (x :: r) = readD (x :: r) := by unfold readR; simp only [hc]
        rw [e] at h ⊢
        unfold readD at h ⊢
        by_cases h2 : (x :: r).length < 2
        · rw [if_pos h2] at h; simp [RR.bad] at h
        rw [if_neg h2] at h ⊢
        cases hn : numW ((x :: r).getD 1 []) with
        | none => rw [hn] at h; simp [RR.bad] at h
        | some n =>
          rw [hn] at h
          simp only at h ⊢
          by_cases h3 : (x :: r).length < 3
          · rw [if_pos h3] at h; simp [RR.bad] at h
          rw [if_neg h3] at h ⊢
          cases hm : numW ((x :: r).getD 2 []) with
          | none => rw [hm] at h; simp [RR.bad] at h
          | some m =>
            rw [hm] at h
            simp only at h ⊢
            by_cases h4 : (x :: r).length < m + 3
            · rw [if_pos h4] at h; simp [RR.bad] at h
            rw [if_neg h4] at h ⊢
            by_cases h5 : chkW 0 n (((x :: r).drop 3).take m) ≠ 0
            · rw [if_pos h5] at h; exact absurd h h5
            rw [if_neg h5] at h ⊢
            have h6 : chkW 0 n (((x :: r).drop 3).take m) = 0 := Classical.byContradiction h5
            refine ⟨h6, ?_, by simp only; omega⟩
            simp only
            unfold resA
            rw [h6, if_neg (by simp), Int.toNat_natCast]
            match r, h3 with
            | [], h3 => simp at h3
            | [_], h3 => simp at h3
            | b :: c :: r, _ =>
              simp only [List.getD_cons_succ, List.getD_cons_zero] at hn hm
              have hl : m ≤ r.length := by simp only [List.length_cons] at h4; omega
              show resW 0 n (r.take m) = _
              unfold resW
              rw [if_pos rfl, hx, List.length_take, Nat.min_eq_left hl, ← numW_spelt hn, ← numW_spelt hm]
              have : 3 + m = m + 1 + 1 + 1 := by omega
              rw [this]
              simp
theorem readR_items (l : Ws) : (readR l).items.length ≤ l.length := by
  cases l with
  | nil => simp [readR, RR.bad]
  | cons x r =>
    cases hc : codeW x with
    | none =>
      have e : readR (x :: r) = .bad 163 := by unfold readR; simp only [hc]
      rw [e]; simp [RR.bad]
    | some j =>
      cases j with
      | succ j =>
        have e : readR (x :: r) = ⟨(j : Int) + 1, 0, [], 1, 0⟩ := by unfold readR; simp only [hc]
        rw [e]; simp
      | zero =>
        have e : readR (x :: r) = readD (x :: r) := by unfold readR; simp only [hc]
        rw [e]
        unfold readD
        split
        · simp [RR.bad]
        · split
          · simp [RR.bad]
          · split
            · simp [RR.bad]
            · split
              · simp [RR.bad]
              · split
                · simp [RR.bad]
                · split
                  · simp [RR.bad]
                  · simp only [List.length_take, List.length_drop]; omega
/-- What is written is read back. -/
theorem readR_back {c n : Int} {l b : Ws} (h : chkW c n l = 0) : readR (resA c n l ++ b) = ⟨c, n, l, (resA c n l).length, 0⟩ := by
  obtain ⟨hc0, hc4, hcn, hn0, hn1, hl8, hx64⟩ := chk_zero h
  obtain ⟨k, rfl⟩ := Int.eq_ofNat_of_zero_le hc0
  obtain ⟨m, rfl⟩ := Int.eq_ofNat_of_zero_le hn0
  unfold resA
  rw [h, if_neg (by simp), Int.toNat_natCast, Int.toNat_natCast]
  cases k with
  | succ k =>
    obtain ⟨hm0, rfl⟩ := hcn (by omega)
    obtain rfl : m = 0 := by omega
    unfold resW readR
    rw [if_neg (by omega), List.cons_append]
    simp only
    rw [codeW_at (by omega)]
    simp
  | zero =>
    unfold resW readR
    rw [if_pos rfl, List.cons_append]
    simp only
    rw [codeW_at (by omega)]
    simp only [List.cons_append]
    unfold readD
    rw [if_neg (by simp)]
    simp only [List.getD_cons_succ, List.getD_cons_zero]
    rw [numW_digits (by omega), numW_digits (by omega)]
    simp only
    rw [if_neg (by simp), if_neg (by simp <;> omega)]
    have e : (((cdN.getD 0 [] :: Lib.decDigits m :: Lib.decDigits l.length :: (l ++ b)).drop 3).take l.length) = l := by simp
    rw [e]
    have h' : chkW 0 (m : Int) l = 0 := h
    rw [h', if_neg (by simp)]
    simp; omega

set_option maxHeartbeats 1600000 in
set_option maxRecDepth 1000000 in
theorem results_same {c n : Int} {s t : Value} {l : Ws} {w : World} (hs : Rt w s l) (ht : Rt w t l) (hl : l.length ≤ 140737488355328) :
    Calls Tryd.prog 8 #[resV c n s, resV c n t] w fun e w' => e = .returned (.bool true) ∧ Below w.heap.size w w' := by
  obtain ⟨ao, cc, rfl⟩ := hs.form
  obtain ⟨ao2, cc2, rfl⟩ := ht.form
  have b1 := ba w (.cells #[.int .i64 c, .int .i64 n, .slice ao l.length cc] 24)
  have b2 := b1.trans ((ba (w.alloc (.cells #[.int .i64 c, .int .i64 n, .slice ao l.length cc] 24)) (.cells #[.int .i64 c, .int .i64 n, .slice ao2 l.length cc2] 24)).mono b1.size)
  have T := hid (texts_same (hs.later b2) (ht.later b2) hl)
  have B := hid b2
  have ec : (c == c) = true := by simp
  have en : (n == n) = true := by simp
  clear b1 b2 hs ht hl
  generalize l.length = nl at *
  go_enter Tryd.func8, Tryd.ntmps8
  go_wp2_with (go_at_call 7; refine T.out.mono ?_; rintro e w4 ⟨rfl, q4, rfl⟩; have B4 := hid (B.out.trans ((bdN _ q4).mono B.out.size)))
  go_ret
  exact ⟨rfl, B4.out⟩
end Go.Proofs.YtgmjjopfpenceabDoor

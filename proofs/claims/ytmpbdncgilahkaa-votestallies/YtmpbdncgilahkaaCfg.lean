import Derived.Test.YtmpbdncgilahkaaNum
import Derived.Deep.DeepCutAuto
namespace Go.Proofs.Ytmpbdncgilahkaa
open Go.RowKit
set_option linter.unusedVariables false

abbrev cfgV (a0 a1 a2 a3 a4 a5 a6 a7 a8 a9 : Int) : Value := .agg #[.int .i64 a0, .int .i64 a1, .int .i64 a2, .int .i64 a3, .int .i64 a4, .int .i64 a5, .int .i64 a6, .int .i64 a7, .int .i64 a8, .int .i64 a9]
abbrev cfgB (a0 a1 a2 a3 a4 a5 a6 a7 a8 a9 : Int) : Obj := .cells #[.int .i64 a0, .int .i64 a1, .int .i64 a2, .int .i64 a3, .int .i64 a4, .int .i64 a5, .int .i64 a6, .int .i64 a7, .int .i64 a8, .int .i64 a9] 23

def cfgOK (a0 a1 a2 a3 a4 a5 a6 a7 a8 a9 : Int) : Bool := fl a0 && wi a1 1 8 && wi a2 1 16 && wi a3 1 16 && wi a4 (wrap64 (a2 + 1)) 256 && wi a5 a4 1024 && wi a6 1 a5 && wi a8 2 64 && wi a7 1 (wrap64 (a8 - 1)) && wi a9 1 8

def chkE (b : Bool) : Int := if b then 0 else 42
theorem chkE_t {b : Bool} (h : b = true) : chkE b = 0 := by rw [h]; rfl
theorem chkE_f {b : Bool} (h : b = false) : chkE b = 42 := by rw [h]; rfl

theorem plain_any {w : World} : Calls Try.prog 27 #[] w fun e w' => e = .returned (cfgV 3 1 2 3 8 64 6 4 8 2) ∧ w' = w.alloc (cfgB 3 1 2 3 8 64 6 4 8 2) := by
  go_enter Try.func27, Try.ntmps27
  go_wp2
  refine bodyPost_ret (v := cfgV 3 1 2 3 8 64 6 4 8 2) (by simp only [results, Try.f27]; go_simp) rfl ?_
  exact ⟨rfl, rfl⟩

theorem within_b {w : World} (v l m : Int) : Calls Try.prog 33 #[.int .i64 v, .int .i64 l, .int .i64 m] w fun e w' => ∃ b, Hid (wi v l m = b) ∧ e = .returned (.bool b) ∧ w' = w :=
  (within_any v l m).mono fun e w' ⟨h, h'⟩ => ⟨_, hid rfl, h, h'⟩
theorem within_rb {w : World} (v l m : Int) : Calls Try.prog 34 #[.int .i64 v, .int .i64 l, .int .i64 m] w fun e w' => ∃ b, Hid (wi v l m = b) ∧ e = .returned (.bool b) ∧ w' = w :=
  (within_ref v l m).mono fun e w' ⟨h, h'⟩ => ⟨_, hid rfl, h, h'⟩
theorem fleet_b {w : World} (n : Int) : Calls Try.prog 32 #[.int .i64 n] w fun e w' => ∃ b, Hid (fl n = b) ∧ e = .returned (.bool b) ∧ w' = w :=
  (fleet_any n).mono fun e w' ⟨h, h'⟩ => ⟨_, hid rfl, h, h'⟩

set_option maxRecDepth 1000000 in
theorem chk_any {w : World} (a0 a1 a2 a3 a4 a5 a6 a7 a8 a9 : Int) : Calls Try.prog 10 #[cfgV a0 a1 a2 a3 a4 a5 a6 a7 a8 a9] w fun e w' => e = .returned (.int .i64 (chkE (cfgOK a0 a1 a2 a3 a4 a5 a6 a7 a8 a9))) ∧ Below w.heap.size w w' := by
  go_enter Try.func10, Try.ntmps10
  go_wp2_with fail
  refine (fleet_b _).mono ?_
  rintro e w1 ⟨b, H0, rfl, rfl⟩
  cases b with
  | false =>
    go_wp2
    go_ret
    exact ⟨by rw [chkE_f (by simp only [cfgOK, H0.out, Bool.false_and])]; rfl, ba _ _⟩
  | true =>
    go_wp2_with fail
    refine (within_b _ _ _).mono ?_
    rintro e w1 ⟨b, H1, rfl, rfl⟩
    cases b with
    | false =>
      go_wp2
      go_ret
      exact ⟨by rw [chkE_f (by simp only [cfgOK, H0.out, H1.out, Bool.false_and, Bool.and_false])]; rfl, ba _ _⟩
    | true =>
      go_wp2_with fail
      refine (within_b _ _ _).mono ?_
      rintro e w1 ⟨b, H2, rfl, rfl⟩
      cases b with
      | false =>
        go_wp2
        go_ret
        exact ⟨by rw [chkE_f (by simp only [cfgOK, H0.out, H1.out, H2.out, Bool.false_and, Bool.and_false, Bool.true_and])]; rfl, ba _ _⟩
      | true =>
        go_wp2_with fail
        refine (within_b _ _ _).mono ?_
        rintro e w1 ⟨b, H3, rfl, rfl⟩
        cases b with
        | false =>
          go_wp2
          go_ret
          exact ⟨by rw [chkE_f (by simp only [cfgOK, H0.out, H1.out, H2.out, H3.out, Bool.false_and, Bool.and_false, Bool.true_and])]; rfl, ba _ _⟩
        | true =>
          go_wp2_with fail
          refine (within_b _ _ _).mono ?_
          rintro e w1 ⟨b, H4, rfl, rfl⟩
          cases b with
          | false =>
            go_wp2
            go_ret
            exact ⟨by rw [chkE_f (by simp only [cfgOK, H0.out, H1.out, H2.out, H3.out, H4.out, Bool.false_and, Bool.and_false, Bool.true_and])]; rfl, ba _ _⟩
          | true =>
            go_wp2_with fail
            refine (within_b _ _ _).mono ?_
            rintro e w1 ⟨b, H5, rfl, rfl⟩
            cases b with
            | false =>
              go_wp2
              go_ret
              exact ⟨by rw [chkE_f (by simp only [cfgOK, H0.out, H1.out, H2.out, H3.out, H4.out, H5.out, Bool.false_and, Bool.and_false, Bool.true_and])]; rfl, ba _ _⟩
            | true =>
              go_wp2_with fail
              refine (within_b _ _ _).mono ?_
              rintro e w1 ⟨b, H6, rfl, rfl⟩
              cases b with
              | false =>
                go_wp2
                go_ret
                exact ⟨by rw [chkE_f (by simp only [cfgOK, H0.out, H1.out, H2.out, H3.out, H4.out, H5.out, H6.out, Bool.false_and, Bool.and_false, Bool.true_and])]; rfl, ba _ _⟩
              | true =>
                go_wp2_with fail
                refine (within_b _ _ _).mono ?_
                rintro e w1 ⟨b, H7, rfl, rfl⟩
                cases b with
                | false =>
                  go_wp2
                  go_ret
                  exact ⟨by rw [chkE_f (by simp only [cfgOK, H0.out, H1.out, H2.out, H3.out, H4.out, H5.out, H6.out, H7.out, Bool.false_and, Bool.and_false, Bool.true_and])]; rfl, ba _ _⟩
                | true =>
                  go_wp2_with fail
                  refine (within_b _ _ _).mono ?_
                  rintro e w1 ⟨b, H8, rfl, rfl⟩
                  cases b with
                  | false =>
                    go_wp2
                    go_ret
                    exact ⟨by rw [chkE_f (by simp only [cfgOK, H0.out, H1.out, H2.out, H3.out, H4.out, H5.out, H6.out, H7.out, H8.out, Bool.false_and, Bool.and_false, Bool.true_and])]; rfl, ba _ _⟩
                  | true =>
                    go_wp2_with fail
                    refine (within_b _ _ _).mono ?_
                    rintro e w1 ⟨b, H9, rfl, rfl⟩
                    cases b with
                    | false =>
                      go_wp2
                      go_ret
                      exact ⟨by rw [chkE_f (by simp only [cfgOK, H0.out, H1.out, H2.out, H3.out, H4.out, H5.out, H6.out, H7.out, H8.out, H9.out, Bool.and_false, Bool.true_and])]; rfl, ba _ _⟩
                    | true =>
                      go_wp2
                      go_ret
                      exact ⟨by rw [chkE_t (by simp only [cfgOK, H0.out, H1.out, H2.out, H3.out, H4.out, H5.out, H6.out, H7.out, H8.out, H9.out, Bool.and_self])]; rfl, ba _ _⟩

set_option maxRecDepth 1000000 in
theorem chk_ref {w : World} (a0 a1 a2 a3 a4 a5 a6 a7 a8 a9 : Int) : Calls Try.prog 11 #[cfgV a0 a1 a2 a3 a4 a5 a6 a7 a8 a9] w fun e w' => e = .returned (.int .i64 (chkE (cfgOK a0 a1 a2 a3 a4 a5 a6 a7 a8 a9))) ∧ Below w.heap.size w w' := by
  go_enter Try.func11, Try.ntmps11
  go_upto_region 1 with fail
  go_cut [3] (fun s wx => s = .bool (fl a0) ∧ wx = w.alloc (cfgB a0 a1 a2 a3 a4 a5 a6 a7 a8 a9))
  case first =>
    by_cases h3 : a0 = 3
    · subst h3
      go_wp2_with fail
      go_meet
      exact ⟨rfl, rfl⟩
    · by_cases h5 : a0 = 5
      · subst h5
        go_wp2_with fail
        go_meet
        exact ⟨rfl, rfl⟩
      · go_wp2_with fail
        go_meet
        exact ⟨by simp [fl], rfl⟩
  case rest =>
  obtain ⟨rfl, rfl⟩ := hcut
  go_wp2_with fail
  refine (within_rb _ _ _).mono ?_
  rintro e w1 ⟨b1, H1, rfl, rfl⟩
  go_upto_region 3 with fail
  go_cut [5] (fun s wx => s = .bool (wi a2 1 16 && wi a3 1 16) ∧ wx = w.alloc (cfgB a0 a1 a2 a3 a4 a5 a6 a7 a8 a9))
  case first =>
    go_wp2_with fail
    refine (within_rb _ _ _).mono ?_
    rintro e w1 ⟨b, H2, rfl, rfl⟩
    cases b with
    | false =>
      go_wp2_with fail
      go_meet
      exact ⟨by rw [H2.out]; rfl, rfl⟩
    | true =>
      go_wp2_with fail
      refine (within_rb _ _ _).mono ?_
      rintro e w1 ⟨b, H3, rfl, rfl⟩
      go_wp2_with fail
      go_meet
      exact ⟨by rw [H2.out, H3.out]; rfl, rfl⟩
  case rest =>
  obtain ⟨rfl, rfl⟩ := hcut
  go_upto_region 4 with fail
  go_cut [6] (fun s wx => s = .bool (wi a4 (wrap64 (a2 + 1)) 256 && wi a5 a4 1024 && wi a6 1 a5) ∧ wx = w.alloc (cfgB a0 a1 a2 a3 a4 a5 a6 a7 a8 a9))
  case first =>
    go_wp2_with fail
    refine (within_rb _ _ _).mono ?_
    rintro e w1 ⟨b, H2, rfl, rfl⟩
    cases b with
    | false =>
      go_wp2_with fail
      go_meet
      exact ⟨by rw [H2.out]; rfl, rfl⟩
    | true =>
      go_wp2_with fail
      refine (within_rb _ _ _).mono ?_
      rintro e w1 ⟨b, H3, rfl, rfl⟩
      cases b with
      | false =>
        go_wp2_with fail
        go_meet
        exact ⟨by rw [H2.out, H3.out]; rfl, rfl⟩
      | true =>
        go_wp2_with fail
        refine (within_rb _ _ _).mono ?_
        rintro e w1 ⟨b, H4, rfl, rfl⟩
        go_wp2_with fail
        go_meet
        exact ⟨by rw [H2.out, H3.out, H4.out]; rfl, rfl⟩
  case rest =>
  obtain ⟨rfl, rfl⟩ := hcut
  go_upto_region 5 with fail
  go_cut [7] (fun s wx => s = .bool (wi a8 2 64 && wi a7 1 (wrap64 (a8 - 1)) && wi a9 1 8) ∧ wx = w.alloc (cfgB a0 a1 a2 a3 a4 a5 a6 a7 a8 a9))
  case first =>
    go_wp2_with fail
    refine (within_rb _ _ _).mono ?_
    rintro e w1 ⟨b, H2, rfl, rfl⟩
    cases b with
    | false =>
      go_wp2_with fail
      go_meet
      exact ⟨by rw [H2.out]; rfl, rfl⟩
    | true =>
      go_wp2_with fail
      refine (within_rb _ _ _).mono ?_
      rintro e w1 ⟨b, H3, rfl, rfl⟩
      cases b with
      | false =>
        go_wp2_with fail
        go_meet
        exact ⟨by rw [H2.out, H3.out]; rfl, rfl⟩
      | true =>
        go_wp2_with fail
        refine (within_rb _ _ _).mono ?_
        rintro e w1 ⟨b, H4, rfl, rfl⟩
        go_wp2_with fail
        go_meet
        exact ⟨by rw [H2.out, H3.out, H4.out]; rfl, rfl⟩
  case rest =>
  obtain ⟨rfl, rfl⟩ := hcut
  have e0 : cfgOK a0 a1 a2 a3 a4 a5 a6 a7 a8 a9 = (fl a0 && b1 && (wi a2 1 16 && wi a3 1 16) && (wi a4 (wrap64 (a2 + 1)) 256 && wi a5 a4 1024 && wi a6 1 a5) && (wi a8 2 64 && wi a7 1 (wrap64 (a8 - 1)) && wi a9 1 8)) := by
    rw [← H1.out]; simp only [cfgOK, Bool.and_assoc]
  have e0 := hid e0
  clear H1
  obtain ⟨b0, E0⟩ : ∃ b, Hid (fl a0 = b) := ⟨_, hid rfl⟩
  obtain ⟨b2, E2⟩ : ∃ b, Hid ((wi a2 1 16 && wi a3 1 16) = b) := ⟨_, hid rfl⟩
  obtain ⟨b3, E3⟩ : ∃ b, Hid ((wi a4 (wrap64 (a2 + 1)) 256 && wi a5 a4 1024 && wi a6 1 a5) = b) := ⟨_, hid rfl⟩
  obtain ⟨b4, E4⟩ : ∃ b, Hid ((wi a8 2 64 && wi a7 1 (wrap64 (a8 - 1)) && wi a9 1 8) = b) := ⟨_, hid rfl⟩
  rw [E0.out, E2.out, E3.out, E4.out]
  cases b0 with
  | false =>
    go_wp2
    go_ret
    exact ⟨by rw [chkE_f (by simp only [e0.out, E0.out, E2.out, E3.out, E4.out, Bool.false_and])]; rfl, ba _ _⟩
  | true =>
    cases b1 with
    | false =>
      go_wp2
      go_ret
      exact ⟨by rw [chkE_f (by simp only [e0.out, E0.out, E2.out, E3.out, E4.out, Bool.false_and, Bool.and_false])]; rfl, ba _ _⟩
    | true =>
      cases b2 with
      | false =>
        go_wp2
        go_ret
        exact ⟨by rw [chkE_f (by simp only [e0.out, E0.out, E2.out, E3.out, E4.out, Bool.false_and, Bool.and_false, Bool.true_and])]; rfl, ba _ _⟩
      | true =>
        cases b3 with
        | false =>
          go_wp2
          go_ret
          exact ⟨by rw [chkE_f (by simp only [e0.out, E0.out, E2.out, E3.out, E4.out, Bool.false_and, Bool.and_false, Bool.true_and])]; rfl, ba _ _⟩
        | true =>
          cases b4 with
          | false =>
            go_wp2
            go_ret
            exact ⟨by rw [chkE_f (by simp only [e0.out, E0.out, E2.out, E3.out, E4.out, Bool.and_false, Bool.true_and])]; rfl, ba _ _⟩
          | true =>
            go_wp2
            go_ret
            exact ⟨by rw [chkE_t (by simp only [e0.out, E0.out, E2.out, E3.out, E4.out, Bool.and_self])]; rfl, ba _ _⟩
end Go.Proofs.Ytmpbdncgilahkaa

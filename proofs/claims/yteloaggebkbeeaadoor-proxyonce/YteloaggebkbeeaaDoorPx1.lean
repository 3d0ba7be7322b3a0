import Derived.Test.YteloaggebkbeeaaDoorMail24
namespace Go.Proofs.YteloaggebkbeeaaDoor
open Go.RowKit
set_option linter.unusedVariables false

def wi (v l m : Int) : Bool := decide (l ≤ v) && decide (v ≤ m)
def fl (n : Int) : Bool := n == 3 || n == 5 || n == 7
theorem vwithin_any {w : World} (v l m : Int) : Calls Tryd.prog 48 #[.int .i64 v, .int .i64 l, .int .i64 m] w fun e w' => e = .returned (.bool (wi v l m)) ∧ w' = w := by
  unfold wi
  by_cases h1 : l ≤ v
  · by_cases h2 : v ≤ m
    all_goals
      go_enter Tryd.func48, Tryd.ntmps48
      go_wp2
      go_ret
      exact ⟨by simp [h1, h2], rfl⟩
  · go_enter Tryd.func48, Tryd.ntmps48
    go_wp2
    go_ret
    exact ⟨by rw [show decide (l ≤ v) = false from decide_eq_false (by omega)]; rfl, rfl⟩
theorem vwithin_ref {w : World} (v l m : Int) : Calls Tryd.prog 50 #[.int .i64 v, .int .i64 l, .int .i64 m] w fun e w' => e = .returned (.bool (wi v l m)) ∧ w' = w := by
  unfold wi
  by_cases h1 : l ≤ v
  · by_cases h2 : v ≤ m
    all_goals
      go_enter Tryd.func50, Tryd.ntmps50
      go_wp2
      go_ret
      exact ⟨by simp [h1, h2], rfl⟩
  · go_enter Tryd.func50, Tryd.ntmps50
    go_wp2
    go_ret
    exact ⟨by rw [show decide (l ≤ v) = false from decide_eq_false (by omega)]; rfl, rfl⟩
theorem vfleet_any {w : World} (n : Int) : Calls Tryd.prog 47 #[.int .i64 n] w fun e w' => e = .returned (.bool (fl n)) ∧ w' = w := by
  unfold fl
  by_cases h1 : n = 3
  · subst h1
    go_enter Tryd.func47, Tryd.ntmps47
    go_wp2
    go_ret
    exact ⟨rfl, rfl⟩
  · by_cases h2 : n = 5
    · subst h2
      go_enter Tryd.func47, Tryd.ntmps47
      go_wp2
      go_ret
      exact ⟨rfl, rfl⟩
    · go_enter Tryd.func47, Tryd.ntmps47
      go_wp2
      go_ret
      exact ⟨by simp, rfl⟩
abbrev cfgV (a0 a1 a2 a3 a4 a5 a6 a7 a8 a9 : Int) : Value := .agg #[.int .i64 a0, .int .i64 a1, .int .i64 a2, .int .i64 a3, .int .i64 a4, .int .i64 a5, .int .i64 a6, .int .i64 a7, .int .i64 a8, .int .i64 a9]
abbrev cfgB (a0 a1 a2 a3 a4 a5 a6 a7 a8 a9 : Int) : Obj := .cells #[.int .i64 a0, .int .i64 a1, .int .i64 a2, .int .i64 a3, .int .i64 a4, .int .i64 a5, .int .i64 a6, .int .i64 a7, .int .i64 a8, .int .i64 a9] 23
def cfgOK (a0 a1 a2 a3 a4 a5 a6 a7 a8 a9 : Int) : Bool := fl a0 && wi a1 1 8 && wi a2 1 16 && wi a3 1 16 && wi a4 (wrap64 (a2 + 1)) 256 && wi a5 a4 1024 && wi a6 1 a5 && wi a8 2 64 && wi a7 1 (wrap64 (a8 - 1)) && wi a9 1 8
def cfgE (b : Bool) : Int := if b then 0 else 42
theorem cfgE_t {b : Bool} (h : b = true) : cfgE b = 0 := by rw [h]; rfl
theorem cfgE_f {b : Bool} (h : b = false) : cfgE b = 42 := by rw [h]; rfl
theorem vwithin_b {w : World} (v l m : Int) : Calls Tryd.prog 48 #[.int .i64 v, .int .i64 l, .int .i64 m] w fun e w' => ∃ b, Hid (wi v l m = b) ∧ e = .returned (.bool b) ∧ w' = w :=
  (vwithin_any v l m).mono fun e w' ⟨h, h'⟩ => ⟨_, hid rfl, h, h'⟩
theorem vwithin_rb {w : World} (v l m : Int) : Calls Tryd.prog 50 #[.int .i64 v, .int .i64 l, .int .i64 m] w fun e w' => ∃ b, Hid (wi v l m = b) ∧ e = .returned (.bool b) ∧ w' = w :=
  (vwithin_ref v l m).mono fun e w' ⟨h, h'⟩ => ⟨_, hid rfl, h, h'⟩
theorem vfleet_b {w : World} (n : Int) : Calls Tryd.prog 47 #[.int .i64 n] w fun e w' => ∃ b, Hid (fl n = b) ∧ e = .returned (.bool b) ∧ w' = w :=
  (vfleet_any n).mono fun e w' ⟨h, h'⟩ => ⟨_, hid rfl, h, h'⟩
set_option maxRecDepth 1000000 in
theorem cfg_any {w : World} (a0 a1 a2 a3 a4 a5 a6 a7 a8 a9 : Int) : Calls Tryd.prog 19 #[cfgV a0 a1 a2 a3 a4 a5 a6 a7 a8 a9] w fun e w' => e = .returned (.int .i64 (cfgE (cfgOK a0 a1 a2 a3 a4 a5 a6 a7 a8 a9))) ∧ Below w.heap.size w w' := by
  go_enter Tryd.func19, Tryd.ntmps19
  go_wp2_with fail
  refine (vfleet_b _).mono ?_
  rintro e w1 ⟨b, H0, rfl, rfl⟩
  cases b with
  | false =>
    go_wp2
    go_ret
    exact ⟨by rw [cfgE_f (by simp only [cfgOK, H0.out, Bool.false_and])]; rfl, ba _ _⟩
  | true =>
    go_wp2_with fail
    refine (vwithin_b _ _ _).mono ?_
    rintro e w1 ⟨b, H1, rfl, rfl⟩
    cases b with
    | false =>
      go_wp2
      go_ret
      exact ⟨by rw [cfgE_f (by simp only [cfgOK, H0.out, H1.out, Bool.false_and, Bool.and_false])]; rfl, ba _ _⟩
    | true =>
      go_wp2_with fail
      refine (vwithin_b _ _ _).mono ?_
      rintro e w1 ⟨b, H2, rfl, rfl⟩
      cases b with
      | false =>
        go_wp2
        go_ret
        exact ⟨by rw [cfgE_f (by simp only [cfgOK, H0.out, H1.out, H2.out, Bool.false_and, Bool.and_false, Bool.true_and])]; rfl, ba _ _⟩
      | true =>
        go_wp2_with fail
        refine (vwithin_b _ _ _).mono ?_
        rintro e w1 ⟨b, H3, rfl, rfl⟩
        cases b with
        | false =>
          go_wp2
          go_ret
          exact ⟨by rw [cfgE_f (by simp only [cfgOK, H0.out, H1.out, H2.out, H3.out, Bool.false_and, Bool.and_false, Bool.true_and])]; rfl, ba _ _⟩
        | true =>
          go_wp2_with fail
          refine (vwithin_b _ _ _).mono ?_
          rintro e w1 ⟨b, H4, rfl, rfl⟩
          cases b with
          | false =>
            go_wp2
            go_ret
            exact ⟨by rw [cfgE_f (by simp only [cfgOK, H0.out, H1.out, H2.out, H3.out, H4.out, Bool.false_and, Bool.and_false, Bool.true_and])]; rfl, ba _ _⟩
          | true =>
            go_wp2_with fail
            refine (vwithin_b _ _ _).mono ?_
            rintro e w1 ⟨b, H5, rfl, rfl⟩
            cases b with
            | false =>
              go_wp2
              go_ret
              exact ⟨by rw [cfgE_f (by simp only [cfgOK, H0.out, H1.out, H2.out, H3.out, H4.out, H5.out, Bool.false_and, Bool.and_false, Bool.true_and])]; rfl, ba _ _⟩
            | true =>
              go_wp2_with fail
              refine (vwithin_b _ _ _).mono ?_
              rintro e w1 ⟨b, H6, rfl, rfl⟩
              cases b with
              | false =>
                go_wp2
                go_ret
                exact ⟨by rw [cfgE_f (by simp only [cfgOK, H0.out, H1.out, H2.out, H3.out, H4.out, H5.out, H6.out, Bool.false_and, Bool.and_false, Bool.true_and])]; rfl, ba _ _⟩
              | true =>
                go_wp2_with fail
                refine (vwithin_b _ _ _).mono ?_
                rintro e w1 ⟨b, H7, rfl, rfl⟩
                cases b with
                | false =>
                  go_wp2
                  go_ret
                  exact ⟨by rw [cfgE_f (by simp only [cfgOK, H0.out, H1.out, H2.out, H3.out, H4.out, H5.out, H6.out, H7.out, Bool.false_and, Bool.and_false, Bool.true_and])]; rfl, ba _ _⟩
                | true =>
                  go_wp2_with fail
                  refine (vwithin_b _ _ _).mono ?_
                  rintro e w1 ⟨b, H8, rfl, rfl⟩
                  cases b with
                  | false =>
                    go_wp2
                    go_ret
                    exact ⟨by rw [cfgE_f (by simp only [cfgOK, H0.out, H1.out, H2.out, H3.out, H4.out, H5.out, H6.out, H7.out, H8.out, Bool.false_and, Bool.and_false, Bool.true_and])]; rfl, ba _ _⟩
                  | true =>
                    go_wp2_with fail
                    refine (vwithin_b _ _ _).mono ?_
                    rintro e w1 ⟨b, H9, rfl, rfl⟩
                    cases b with
                    | false =>
                      go_wp2
                      go_ret
                      exact ⟨by rw [cfgE_f (by simp only [cfgOK, H0.out, H1.out, H2.out, H3.out, H4.out, H5.out, H6.out, H7.out, H8.out, H9.out, Bool.and_false, Bool.true_and])]; rfl, ba _ _⟩
                    | true =>
                      go_wp2
                      go_ret
                      exact ⟨by rw [cfgE_t (by simp only [cfgOK, H0.out, H1.out, H2.out, H3.out, H4.out, H5.out, H6.out, H7.out, H8.out, H9.out, Bool.and_self])]; rfl, ba _ _⟩
set_option maxRecDepth 1000000 in
theorem cfg_ref {w : World} (a0 a1 a2 a3 a4 a5 a6 a7 a8 a9 : Int) : Calls Tryd.prog 21 #[cfgV a0 a1 a2 a3 a4 a5 a6 a7 a8 a9] w fun e w' => e = .returned (.int .i64 (cfgE (cfgOK a0 a1 a2 a3 a4 a5 a6 a7 a8 a9))) ∧ Below w.heap.size w w' := by
  go_enter Tryd.func21, Tryd.ntmps21
  go_upto_region 1 with fail
  go_cut [3] (fun s wx => s = .bool (fl a0) ∧ wx = w.alloc (cfgB a0 a1 a2 a3 a4 a5 a6 a7 a8 a9))
  case first =>
    by_cases h3 : a0 = 3
    · subst h3
      go_wp2_with fail
      go_meet
      exact ⟨rfl, rfl⟩
    · by_cases h5 : a0 = 5
      · subst h5
        go_wp2_with fail
        go_meet
        exact ⟨rfl, rfl⟩
      · go_wp2_with fail
        go_meet
        exact ⟨by simp [fl], rfl⟩
  case rest =>
  obtain ⟨rfl, rfl⟩ := hcut
  go_wp2_with fail
  refine (vwithin_rb _ _ _).mono ?_
  rintro e w1 ⟨b1, H1, rfl, rfl⟩
  go_upto_region 3 with fail
  go_cut [5] (fun s wx => s = .bool (wi a2 1 16 && wi a3 1 16) ∧ wx = w.alloc (cfgB a0 a1 a2 a3 a4 a5 a6 a7 a8 a9))
  case first =>
    go_wp2_with fail
    refine (vwithin_rb _ _ _).mono ?_
    rintro e w1 ⟨b, H2, rfl, rfl⟩
    cases b with
    | false =>
      go_wp2_with fail
      go_meet
      exact ⟨by rw [H2.out]; rfl, rfl⟩
    | true =>
      go_wp2_with fail
      refine (vwithin_rb _ _ _).mono ?_
      rintro e w1 ⟨b, H3, rfl, rfl⟩
      go_wp2_with fail
      go_meet
      exact ⟨by rw [H2.out, H3.out]; rfl, rfl⟩
  case rest =>
  obtain ⟨rfl, rfl⟩ := hcut
  go_upto_region 4 with fail
  go_cut [6] (fun s wx => s = .bool (wi a4 (wrap64 (a2 + 1)) 256 && wi a5 a4 1024 && wi a6 1 a5) ∧ wx = w.alloc (cfgB a0 a1 a2 a3 a4 a5 a6 a7 a8 a9))
  case first =>
    go_wp2_with fail
    refine (vwithin_rb _ _ _).mono ?_
    rintro e w1 ⟨b, H2, rfl, rfl⟩
    cases b with
    | false =>
      go_wp2_with fail
      go_meet
      exact ⟨by rw [H2.out]; rfl, rfl⟩
    | true =>
      go_wp2_with fail
      refine (vwithin_rb _ _ _).mono ?_
      rintro e w1 ⟨b, H3, rfl, rfl⟩
      cases b with
      | false =>
        go_wp2_with fail
        go_meet
        exact ⟨by rw [H2.out, H3.out]; rfl, rfl⟩
      | true =>
        go_wp2_with fail
        refine (vwithin_rb _ _ _).mono ?_
        rintro e w1 ⟨b, H4, rfl, rfl⟩
        go_wp2_with fail
        go_meet
        exact ⟨by rw [H2.out, H3.out, H4.out]; rfl, rfl⟩
  case rest =>
  obtain ⟨rfl, rfl⟩ := hcut
  go_upto_region 5 with fail
  go_cut [7] (fun s wx => s = .bool (wi a8 2 64 && wi a7 1 (wrap64 (a8 - 1)) && wi a9 1 8) ∧ wx = w.alloc (cfgB a0 a1 a2 a3 a4 a5 a6 a7 a8 a9))
  case first =>
    go_wp2_with fail
    refine (vwithin_rb _ _ _).mono ?_
    rintro e w1 ⟨b, H2, rfl, rfl⟩
    cases b with
    | false =>
      go_wp2_with fail
      go_meet
      exact ⟨by rw [H2.out]; rfl, rfl⟩
    | true =>
      go_wp2_with fail
      refine (vwithin_rb _ _ _).mono ?_
      rintro e w1 ⟨b, H3, rfl, rfl⟩
      cases b with
      | false =>
        go_wp2_with fail
        go_meet
        exact ⟨by rw [H2.out, H3.out]; rfl, rfl⟩
      | true =>
        go_wp2_with fail
        refine (vwithin_rb _ _ _).mono ?_
        rintro e w1 ⟨b, H4, rfl, rfl⟩
        go_wp2_with fail
        go_meet
        exact ⟨by rw [H2.out, H3.out, H4.out]; rfl, rfl⟩
  case rest =>
  obtain ⟨rfl, rfl⟩ := hcut
  have e0 : cfgOK a0 a1 a2 a3 a4 a5 a6 a7 a8 a9 = (fl a0 && b1 && (wi a2 1 16 && wi a3 1 16) && (wi a4 (wrap64 (a2 + 1)) 256 && wi a5 a4 1024 && wi a6 1 a5) && (wi a8 2 64 && wi a7 1 (wrap64 (a8 - 1)) && wi a9 1 8)) := by
    rw [← H1.out]; simp only [cfgOK, Bool.and_assoc]
  have e0 := hid e0
  clear H1
  obtain ⟨b0, E0⟩ : ∃ b, Hid (fl a0 = b) := ⟨_, hid rfl⟩
  obtain ⟨b2, E2⟩ : ∃ b, Hid ((wi a2 1 16 && wi a3 1 16) = b) := ⟨_, hid rfl⟩
  obtain ⟨b3, E3⟩ : ∃ b, Hid ((wi a4 (wrap64 (a2 + 1)) 256 && wi a5 a4 1024 && wi a6 1 a5) = b) := ⟨_, hid rfl⟩
  obtain ⟨b4, E4⟩ : ∃ b, Hid ((wi a8 2 64 && wi a7 1 (wrap64 (a8 - 1)) && wi a9 1 8) = b) := ⟨_, hid rfl⟩
  rw [E0.out, E2.out, E3.out, E4.out]
  cases b0 with
  | false =>
    go_wp2
    go_ret
    exact ⟨by rw [cfgE_f (by simp only [e0.out, E0.out, E2.out, E3.out, E4.out, Bool.false_and])]; rfl, ba _ _⟩
  | true =>
    cases b1 with
    | false =>
      go_wp2
      go_ret
      exact ⟨by rw [cfgE_f (by simp only [e0.out, E0.out, E2.out, E3.out, E4.out, Bool.false_and, Bool.and_false])]; rfl, ba _ _⟩
    | true =>
      cases b2 with
      | false =>
        go_wp2
        go_ret
        exact ⟨by rw [cfgE_f (by simp only [e0.out, E0.out, E2.out, E3.out, E4.out, Bool.false_and, Bool.and_false, Bool.true_and])]; rfl, ba _ _⟩
      | true =>
        cases b3 with
        | false =>
          go_wp2
          go_ret
          exact ⟨by rw [cfgE_f (by simp only [e0.out, E0.out, E2.out, E3.out, E4.out, Bool.false_and, Bool.and_false, Bool.true_and])]; rfl, ba _ _⟩
        | true =>
          cases b4 with
          | false =>
            go_wp2
            go_ret
            exact ⟨by rw [cfgE_f (by simp only [e0.out, E0.out, E2.out, E3.out, E4.out, Bool.and_false, Bool.true_and])]; rfl, ba _ _⟩
          | true =>
            go_wp2
            go_ret
            exact ⟨by rw [cfgE_t (by simp only [e0.out, E0.out, E2.out, E3.out, E4.out, Bool.and_self])]; rfl, ba _ _⟩
theorem mayWait_yes {w : World} {n : Int} (h1 : 1 ≤ n) (h2 : n ≤ 1024) : Calls Tryd.prog 76 #[.int .i64 n] w fun e w' => e = .returned (.bool true) ∧ w' = w := by
  go_enter Tryd.func76, Tryd.ntmps76
  go_wp2
  go_ret
  exact ⟨rfl, rfl⟩
/-- A backoff's block. -/
def BoB (w : World) (P : Nat) (b m n : Int) : Prop := w.heap[P]? = some (.cells #[.int .i64 b, .int .i64 m, .int .i64 n] 102 (0, 0))
section
variable {w : World} {P : Nat} {b m n : Int}
theorem BoB.c0 (h : BoB w P b m n) : w.cell? ⟨P, 0, none⟩ = some (.int .i64 b) := by rw [cell_at h]; rfl
theorem BoB.c1 (h : BoB w P b m n) : w.cell? ⟨P, 1, none⟩ = some (.int .i64 m) := by rw [cell_at h]; rfl
theorem BoB.c2 (h : BoB w P b m n) : w.cell? ⟨P, 2, none⟩ = some (.int .i64 n) := by rw [cell_at h]; rfl
theorem BoB.free (h : BoB w P b m n) (j : Nat) : w.frozen? ⟨P, j, none⟩ = false := free_at h j
theorem BoB.set2 (h : BoB w P b m n) (k : Int) : BoB (w.setCell ⟨P, 2, none⟩ (.int .i64 k)) P b m k := by
  unfold BoB; rw [heap_setCell_same h]; rfl
theorem BoB.drewN (h : BoB w P b m n) (q : Nat) : BoB (w.drewN q) P b m n := h
end
theorem NewBackoff_ok {w : World} {b m : Int} (h1 : 1 ≤ b) (h2 : b ≤ m) (h3 : m ≤ 1024) :
    Calls Tryd.prog 49 #[.int .i64 b, .int .i64 m] w fun e w' => ∃ P, e = .returned (.tuple #[.pointer (some ⟨P, 0, none⟩), .int .i64 0]) ∧ Below w.heap.size w w' ∧ w.heap.size ≤ P ∧ BoB w' P b m b := by
  have h4 : b ≤ 1024 := by omega
  go_enter Tryd.func49, Tryd.ntmps49
  go_wp2_with fail
  refine (mayWait_yes h1 h4).mono ?_
  rintro e w1 ⟨rfl, rfl⟩
  go_wp2
  go_ret2
  exact ⟨_, rfl, ba _ _, Nat.le_refl _, heap_alloc_new _ _⟩
theorem Reset_any {w : World} {P : Nat} {b m n : Int} (h : BoB w P b m n) : Calls Tryd.prog 84 #[.pointer (some ⟨P, 0, none⟩)] w fun e w' => e = .returned (.tuple #[]) ∧ BoB w' P b m b ∧ Fr [P] w w' := by
  have c0 := h.c0
  have c2 := h.c2
  have f2 := h.free 2
  have N := hid (h.set2 b)
  clear h
  go_enter Tryd.func84, Tryd.ntmps84
  go_wp2
  go_end0
  exact ⟨rfl, N.out, Fr.setCell _ _ _ _⟩
theorem Next_any {w : World} {P : Nat} {b m n : Int} (h : BoB w P b m n) (h1 : 1 ≤ n) (h2 : n ≤ m) (h3 : m ≤ 1024) : Calls Tryd.prog 53 #[.pointer (some ⟨P, 0, none⟩)] w fun e w' => e = .returned (.int .i64 n) ∧ BoB w' P b m (min (2 * n) m) ∧ Fr [P] w w' := by
  have c1 := h.c1
  have c2 := h.c2
  have f2 := h.free 2
  have N1 := hid (h.set2 (min (2 * n) m))
  clear h
  have hw : IntKind.i64.wrap (2 * n) = 2 * n := by simp [IntKind.wrap, IntKind.bits, IntKind.signed]; omega
  go_enter Tryd.func53, Tryd.ntmps53
  go_wp2
  go_ret
  exact ⟨rfl, N1.out, Fr.setCell _ _ _ _⟩

theorem plain_any {w : World} : Calls Tryd.prog 18 #[] w fun e w' => e = .returned (cfgV 3 2 2 3 8 64 4 4 8 2) ∧ w' = w.alloc (cfgB 3 2 2 3 8 64 4 4 8 2) := by
  go_enter Tryd.func18, Tryd.ntmps18
  go_wp2
  refine bodyPost_ret (v := cfgV 3 2 2 3 8 64 4 4 8 2) (by simp only [results, Tryd.f18]; go_simp) rfl ?_
  exact ⟨rfl, rfl⟩
theorem primary_any {w : World} (n v : Int) (hn : n = 3 ∨ n = 5 ∨ n = 7) (hv : 0 ≤ v) : Calls Tryd.prog 26 #[.int .i64 n, .int .i64 v] w fun e w' => e = .returned (.int .i64 (v.tmod n)) ∧ w' = w := by
  have h47 : Hid (∀ W : World, Calls Tryd.prog 47 #[.int .i64 n] W fun e w' => e = .returned (.bool true) ∧ w' = W) := hid (fun W => by
    have := vfleet_any (w := W) n
    rw [show fl n = true by rcases hn with rfl | rfl | rfl <;> rfl] at this
    exact this)
  have e1 : decide (v < 0) = false := by simpa using hv
  have n0 : n ≠ 0 := by omega
  have n1 : n ≠ -1 := by omega
  clear hn hv
  go_enter Tryd.func26, Tryd.ntmps26
  go_wp2_with (go_at_call 47; refine (h47.out _).mono ?_; rintro e w' ⟨rfl, rfl⟩)
  go_ret
  exact ⟨rfl, rfl⟩
theorem pick_any {w : World} (c n : Int) (hc : -9223372036854775808 ≤ c ∧ c ≤ 9223372036854775807) (hn : 1 ≤ n) : Calls Tryd.prog 13 #[.int .i64 c, .int .i64 n] w fun e w' => (∃ k : Int, e = .returned (.int .i64 k) ∧ 0 ≤ k ∧ k < n) ∧ w' = w := by
  have n0 : n ≠ 0 := by omega
  have n1 : n ≠ -1 := by omega
  by_cases h : c < 0
  · have e1 : decide (c < 0) = true := by simpa using h
    have e2 : IntKind.i64.wrap (c + 1) = c + 1 := by rw [IntKind.wrap_i64]; omega
    have e3 : IntKind.i64.wrap (-(c + 1)) = -(c + 1) := by rw [IntKind.wrap_i64]; omega
    have R : Hid (0 ≤ -(c + 1).tmod n ∧ -(c + 1).tmod n < n) := hid (by rw [← Int.neg_tmod]; exact ⟨Int.tmod_nonneg _ (by omega), Int.tmod_lt_of_pos _ (by omega)⟩)
    clear h hc hn
    go_enter Tryd.func13, Tryd.ntmps13
    go_wp2
    go_ret
    exact ⟨⟨_, rfl, R.out.1, R.out.2⟩, rfl⟩
  · have e1 : decide (c < 0) = false := by simpa using h
    have R : Hid (0 ≤ c.tmod n ∧ c.tmod n < n) := hid ⟨Int.tmod_nonneg _ (by omega), Int.tmod_lt_of_pos _ (by omega)⟩
    clear h hc hn
    go_enter Tryd.func13, Tryd.ntmps13
    go_wp2
    go_ret
    exact ⟨⟨_, rfl, R.out.1, R.out.2⟩, rfl⟩
end Go.Proofs.YteloaggebkbeeaaDoor

import Derived.Test.YtdhkdniddjnigaaGreatDoorMail24
namespace Go.Proofs.YtdhkdniddjnigaaGreatDoor
open Go.RowKit
set_option linter.unusedVariables false

def wi (v l m : Int) : Bool := decide (l ≤ v) && decide (v ≤ m)
def fl (n : Int) : Bool := n == 3 || n == 5 || n == 7
theorem vwithin_any {w : World} (v l m : Int) : Calls Tryz.prog 64 #[.int .i64 v, .int .i64 l, .int .i64 m] w fun e w' => e = .returned (.bool (wi v l m)) ∧ w' = w := by
  unfold wi
  by_cases h1 : l ≤ v
  · by_cases h2 : v ≤ m
    all_goals
      go_enter Tryz.func64, Tryz.ntmps64
      go_wp2
      go_ret
      exact ⟨by simp [h1, h2], rfl⟩
  · go_enter Tryz.func64, Tryz.ntmps64
    go_wp2
    go_ret
    exact ⟨by rw [show decide (l ≤ v) = false from decide_eq_false (by omega)]; rfl, rfl⟩
theorem vfleet_any {w : World} (n : Int) : Calls Tryz.prog 63 #[.int .i64 n] w fun e w' => e = .returned (.bool (fl n)) ∧ w' = w := by
  unfold fl
  by_cases h1 : n = 3
  · subst h1
    go_enter Tryz.func63, Tryz.ntmps63
    go_wp2
    go_ret
    exact ⟨rfl, rfl⟩
  · by_cases h2 : n = 5
    · subst h2
      go_enter Tryz.func63, Tryz.ntmps63
      go_wp2
      go_ret
      exact ⟨rfl, rfl⟩
    · go_enter Tryz.func63, Tryz.ntmps63
      go_wp2
      go_ret
      exact ⟨by simp, rfl⟩
abbrev cfgV (a0 a1 a2 a3 a4 a5 a6 a7 a8 a9 : Int) : Value := .agg #[.int .i64 a0, .int .i64 a1, .int .i64 a2, .int .i64 a3, .int .i64 a4, .int .i64 a5, .int .i64 a6, .int .i64 a7, .int .i64 a8, .int .i64 a9]
abbrev cfgB (a0 a1 a2 a3 a4 a5 a6 a7 a8 a9 : Int) : Obj := .cells #[.int .i64 a0, .int .i64 a1, .int .i64 a2, .int .i64 a3, .int .i64 a4, .int .i64 a5, .int .i64 a6, .int .i64 a7, .int .i64 a8, .int .i64 a9] 23
def cfgOK (a0 a1 a2 a3 a4 a5 a6 a7 a8 a9 : Int) : Bool := fl a0 && wi a1 1 8 && wi a2 1 16 && wi a3 1 16 && wi a4 (wrap64 (a2 + 1)) 256 && wi a5 a4 1024 && wi a6 1 a5 && wi a8 2 64 && wi a7 1 (wrap64 (a8 - 1)) && wi a9 1 8
def cfgE (b : Bool) : Int := if b then 0 else 42
theorem cfgE_t {b : Bool} (h : b = true) : cfgE b = 0 := by rw [h]; rfl
theorem cfgE_f {b : Bool} (h : b = false) : cfgE b = 42 := by rw [h]; rfl
theorem vwithin_b {w : World} (v l m : Int) : Calls Tryz.prog 64 #[.int .i64 v, .int .i64 l, .int .i64 m] w fun e w' => ∃ b, Hid (wi v l m = b) ∧ e = .returned (.bool b) ∧ w' = w :=
  (vwithin_any v l m).mono fun e w' ⟨h, h'⟩ => ⟨_, hid rfl, h, h'⟩
theorem vfleet_b {w : World} (n : Int) : Calls Tryz.prog 63 #[.int .i64 n] w fun e w' => ∃ b, Hid (fl n = b) ∧ e = .returned (.bool b) ∧ w' = w :=
  (vfleet_any n).mono fun e w' ⟨h, h'⟩ => ⟨_, hid rfl, h, h'⟩
set_option maxRecDepth 1000000 in
theorem cfg_any {w : World} (a0 a1 a2 a3 a4 a5 a6 a7 a8 a9 : Int) : Calls Tryz.prog 38 #[cfgV a0 a1 a2 a3 a4 a5 a6 a7 a8 a9] w fun e w' => e = .returned (.int .i64 (cfgE (cfgOK a0 a1 a2 a3 a4 a5 a6 a7 a8 a9))) ∧ Below w.heap.size w w' := by
  go_enter Tryz.func38, Tryz.ntmps38
  go_wp2_with fail
  refine (vfleet_b _).mono ?_
  rintro e w1 ⟨b, H0, rfl, rfl⟩
  cases b with
  | false =>
    go_wp2
    go_ret
    exact ⟨by rw [cfgE_f (by simp only [cfgOK, H0.out, Bool.false_and])]; rfl, ba _ _⟩
  | true =>
    go_wp2_with fail
    refine (vwithin_b _ _ _).mono ?_
    rintro e w1 ⟨b, H1, rfl, rfl⟩
    cases b with
    | false =>
      go_wp2
      go_ret
      exact ⟨by rw [cfgE_f (by simp only [cfgOK, H0.out, H1.out, Bool.false_and, Bool.and_false])]; rfl, ba _ _⟩
    | true =>
      go_wp2_with fail
      refine (vwithin_b _ _ _).mono ?_
      rintro e w1 ⟨b, H2, rfl, rfl⟩
      cases b with
      | false =>
        go_wp2
        go_ret
        exact ⟨by rw [cfgE_f (by simp only [cfgOK, H0.out, H1.out, H2.out, Bool.false_and, Bool.and_false, Bool.true_and])]; rfl, ba _ _⟩
      | true =>
        go_wp2_with fail
        refine (vwithin_b _ _ _).mono ?_
        rintro e w1 ⟨b, H3, rfl, rfl⟩
        cases b with
        | false =>
          go_wp2
          go_ret
          exact ⟨by rw [cfgE_f (by simp only [cfgOK, H0.out, H1.out, H2.out, H3.out, Bool.false_and, Bool.and_false, Bool.true_and])]; rfl, ba _ _⟩
        | true =>
          go_wp2_with fail
          refine (vwithin_b _ _ _).mono ?_
          rintro e w1 ⟨b, H4, rfl, rfl⟩
          cases b with
          | false =>
            go_wp2
            go_ret
            exact ⟨by rw [cfgE_f (by simp only [cfgOK, H0.out, H1.out, H2.out, H3.out, H4.out, Bool.false_and, Bool.and_false, Bool.true_and])]; rfl, ba _ _⟩
          | true =>
            go_wp2_with fail
            refine (vwithin_b _ _ _).mono ?_
            rintro e w1 ⟨b, H5, rfl, rfl⟩
            cases b with
            | false =>
              go_wp2
              go_ret
              exact ⟨by rw [cfgE_f (by simp only [cfgOK, H0.out, H1.out, H2.out, H3.out, H4.out, H5.out, Bool.false_and, Bool.and_false, Bool.true_and])]; rfl, ba _ _⟩
            | true =>
              go_wp2_with fail
              refine (vwithin_b _ _ _).mono ?_
              rintro e w1 ⟨b, H6, rfl, rfl⟩
              cases b with
              | false =>
                go_wp2
                go_ret
                exact ⟨by rw [cfgE_f (by simp only [cfgOK, H0.out, H1.out, H2.out, H3.out, H4.out, H5.out, H6.out, Bool.false_and, Bool.and_false, Bool.true_and])]; rfl, ba _ _⟩
              | true =>
                go_wp2_with fail
                refine (vwithin_b _ _ _).mono ?_
                rintro e w1 ⟨b, H7, rfl, rfl⟩
                cases b with
                | false =>
                  go_wp2
                  go_ret
                  exact ⟨by rw [cfgE_f (by simp only [cfgOK, H0.out, H1.out, H2.out, H3.out, H4.out, H5.out, H6.out, H7.out, Bool.false_and, Bool.and_false, Bool.true_and])]; rfl, ba _ _⟩
                | true =>
                  go_wp2_with fail
                  refine (vwithin_b _ _ _).mono ?_
                  rintro e w1 ⟨b, H8, rfl, rfl⟩
                  cases b with
                  | false =>
                    go_wp2
                    go_ret
                    exact ⟨by rw [cfgE_f (by simp only [cfgOK, H0.out, H1.out, H2.out, H3.out, H4.out, H5.out, H6.out, H7.out, H8.out, Bool.false_and, Bool.and_false, Bool.true_and])]; rfl, ba _ _⟩
                  | true =>
                    go_wp2_with fail
                    refine (vwithin_b _ _ _).mono ?_
                    rintro e w1 ⟨b, H9, rfl, rfl⟩
                    cases b with
                    | false =>
                      go_wp2
                      go_ret
                      exact ⟨by rw [cfgE_f (by simp only [cfgOK, H0.out, H1.out, H2.out, H3.out, H4.out, H5.out, H6.out, H7.out, H8.out, H9.out, Bool.and_false, Bool.true_and])]; rfl, ba _ _⟩
                    | true =>
                      go_wp2
                      go_ret
                      exact ⟨by rw [cfgE_t (by simp only [cfgOK, H0.out, H1.out, H2.out, H3.out, H4.out, H5.out, H6.out, H7.out, H8.out, H9.out, Bool.and_self])]; rfl, ba _ _⟩
theorem mayWait_yes {w : World} {n : Int} (h1 : 1 ≤ n) (h2 : n ≤ 1024) : Calls Tryz.prog 102 #[.int .i64 n] w fun e w' => e = .returned (.bool true) ∧ w' = w := by
  go_enter Tryz.func102, Tryz.ntmps102
  go_wp2
  go_ret
  exact ⟨rfl, rfl⟩
/-- A backoff's block. -/
def BoB (w : World) (P : Nat) (b m n : Int) : Prop := w.heap[P]? = some (.cells #[.int .i64 b, .int .i64 m, .int .i64 n] 170 (0, 0))
variable {w : World} {P : Nat} {b m n : Int}
theorem BoB.c0 (h : BoB w P b m n) : w.cell? ⟨P, 0, none⟩ = some (.int .i64 b) := by rw [cell_at h]; rfl
theorem BoB.c1 (h : BoB w P b m n) : w.cell? ⟨P, 1, none⟩ = some (.int .i64 m) := by rw [cell_at h]; rfl
theorem BoB.c2 (h : BoB w P b m n) : w.cell? ⟨P, 2, none⟩ = some (.int .i64 n) := by rw [cell_at h]; rfl
theorem BoB.free (h : BoB w P b m n) (j : Nat) : w.frozen? ⟨P, j, none⟩ = false := free_at h j
theorem BoB.set2 (h : BoB w P b m n) (k : Int) : BoB (w.setCell ⟨P, 2, none⟩ (.int .i64 k)) P b m k := by
  unfold BoB; rw [heap_setCell_same h]; rfl
theorem NewBackoff_ok {w : World} {b m : Int} (h1 : 1 ≤ b) (h2 : b ≤ m) (h3 : m ≤ 1024) :
    Calls Tryz.prog 65 #[.int .i64 b, .int .i64 m] w fun e w' => ∃ P, e = .returned (.tuple #[.pointer (some ⟨P, 0, none⟩), .int .i64 0]) ∧ Below w.heap.size w w' ∧ w.heap.size ≤ P ∧ BoB w' P b m b := by
  have h4 : b ≤ 1024 := by omega
  go_enter Tryz.func65, Tryz.ntmps65
  go_wp2_with fail
  refine (mayWait_yes h1 h4).mono ?_
  rintro e w1 ⟨rfl, rfl⟩
  go_wp2
  go_ret2
  exact ⟨_, rfl, ba _ _, Nat.le_refl _, heap_alloc_new _ _⟩
theorem Reset_any {w : World} {P : Nat} {b m n : Int} (h : BoB w P b m n) : Calls Tryz.prog 129 #[.pointer (some ⟨P, 0, none⟩)] w fun e w' => e = .returned (.tuple #[]) ∧ BoB w' P b m b ∧ Fr [P] w w' := by
  have c0 := h.c0
  have c2 := h.c2
  have f2 := h.free 2
  have N := hid (h.set2 b)
  clear h
  go_enter Tryz.func129, Tryz.ntmps129
  go_wp2
  go_end0
  exact ⟨rfl, N.out, Fr.setCell _ _ _ _⟩
theorem Next_any {w : World} {P : Nat} {b m n : Int} (h : BoB w P b m n) (h1 : 1 ≤ n) (h2 : n ≤ m) (h3 : m ≤ 1024) : Calls Tryz.prog 118 #[.pointer (some ⟨P, 0, none⟩)] w fun e w' => e = .returned (.int .i64 n) ∧ BoB w' P b m (min (2 * n) m) ∧ Fr [P] w w' := by
  have c1 := h.c1
  have c2 := h.c2
  have f2 := h.free 2
  have N1 := hid (h.set2 (min (2 * n) m))
  clear h
  have hw : IntKind.i64.wrap (2 * n) = 2 * n := by simp [IntKind.wrap, IntKind.bits, IntKind.signed]; omega
  go_enter Tryz.func118, Tryz.ntmps118
  go_wp2
  go_ret
  exact ⟨rfl, N1.out, Fr.setCell _ _ _ _⟩

theorem primary_any {w : World} (n v : Int) (hn : n = 3 ∨ n = 5 ∨ n = 7) (hv : 0 ≤ v) : Calls Tryz.prog 213 #[.int .i64 n, .int .i64 v] w fun e w' => e = .returned (.int .i64 (v.tmod n)) ∧ w' = w := by
  have h47 : Hid (∀ W : World, Calls Tryz.prog 63 #[.int .i64 n] W fun e w' => e = .returned (.bool true) ∧ w' = W) := hid (fun W => by
    have := vfleet_any (w := W) n
    rw [show fl n = true by rcases hn with rfl | rfl | rfl <;> rfl] at this
    exact this)
  have e1 : decide (v < 0) = false := by simpa using hv
  have n0 : n ≠ 0 := by omega
  have n1 : n ≠ -1 := by omega
  clear hn hv
  go_enter Tryz.func213, Tryz.ntmps213
  go_wp2_with (go_at_call 63; refine (h47.out _).mono ?_; rintro e w' ⟨rfl, rfl⟩)
  go_ret
  exact ⟨rfl, rfl⟩
end Go.Proofs.YtdhkdniddjnigaaGreatDoor

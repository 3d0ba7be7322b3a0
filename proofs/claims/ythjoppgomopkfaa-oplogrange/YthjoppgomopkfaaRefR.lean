import Derived.Test.YthjoppgomopkfaaReset
namespace Go.Proofs.Ythjoppgomopkfaa
open Go.RowKit
set_option linter.unusedVariables false

set_option maxHeartbeats 800000 in
set_option maxRecDepth 1000000 in
theorem rReset_no {w : World} {p n b : Nat} {v : Value} (h : RefAt w p n b v) (hn : n ≤ 64) (base : Int) (hi : i64In base) {ao : Option Addr} {m c : Nat} (hm : m ≤ 1099511627776 * 4) (hno : resetE n base m ≠ 0) : Calls Try.prog 24 #[.pointer (some ⟨p, 0, none⟩), .int .i64 base, .slice ao m c] w fun e w' => e = .returned (.int .i64 (resetE n base m)) ∧ Below w.heap.size w w' := by
  have c0 := h.c0
  clear h
  by_cases h1 : base < 0
  · have e9 : resetE n base m = 92 := by simp [resetE, h1]
    rw [e9]
    have q1 : decide (base < 0) = true := decide_eq_true h1
    clear hno hi e9
    go_enter Try.func24, Try.ntmps24
    go_wp2
    go_ret
    exact ⟨rfl, Below.refl _ _⟩
  have q1 : decide (base < 0) = false := decide_eq_false h1
  by_cases h2 : 1099511627776 < base
  · have e9 : resetE n base m = 92 := by simp [resetE, h2]
    rw [e9]
    have q2 : decide (1099511627776 < base) = true := decide_eq_true h2
    clear hno hi e9
    go_enter Try.func24, Try.ntmps24
    go_wp2
    go_ret
    exact ⟨rfl, Below.refl _ _⟩
  have q2 : decide (1099511627776 < base) = false := decide_eq_false h2
  by_cases h3 : 1099511627776 < base + m
  · have e9 : resetE n base m = 92 := by simp [resetE, h3]
    rw [e9]
    have q3 : decide (1099511627776 < base + (m : Int)) = true := decide_eq_true (by omega)
    clear hno hi e9
    go_enter Try.func24, Try.ntmps24
    go_wp2
    go_ret
    exact ⟨rfl, Below.refl _ _⟩
  have q3 : decide (1099511627776 < base + (m : Int)) = false := decide_eq_false (by omega)
  have h4 : n < m := by
    unfold resetE at hno
    rw [if_neg (by omega)] at hno
    by_cases h : n < m
    · exact h
    · rw [if_neg h] at hno; exact absurd rfl hno
  have e9 : resetE n base m = 90 := by unfold resetE; rw [if_neg (by omega), if_pos h4]
  rw [e9]
  have q4 : decide ((n : Int) < (m : Int)) = true := decide_eq_true (by omega)
  have h4' : (n : Int) < (m : Int) := by omega
  clear hno hi e9
  go_enter Try.func24, Try.ntmps24
  go_wp2
  go_ret
  exact ⟨rfl, Below.refl _ _⟩

set_option maxHeartbeats 800000 in
set_option maxRecDepth 1000000 in
theorem rReset_ok {p n b : Nat} {v : Value} {l : List Ent} {cs : List Comp} {w : World} (hA : All (refP p n b v l ++ cs) w) (hn : n ≤ 64) (base : Nat) {s : Value} {L : List Ent} (hS : EntsW w s L) (h1 : base + L.length ≤ 1099511627776) (h2 : L.length ≤ n) : Calls Try.prog 24 #[.pointer (some ⟨p, 0, none⟩), .int .i64 (base : Int), s] w fun e w' => e = .returned (.int .i64 0) ∧ ∃ v', All (refP p n base v' L ++ cs) w' := by
  obtain ⟨v', w1, hr, hb, ho⟩ := app_all hS (by omega)
  obtain ⟨ao', c', rfl⟩ := owns_form ho
  obtain ⟨ao, c, rfl, hc, _⟩ := hS
  obtain ⟨ao0, c0, rfl, hc0⟩ := owns7_form hA.refRow
  have d0 := hA.ref.c0
  have A1 := hid (hA.addRow hb ho)
  have er := A1.out.tail.ref
  have k1 := er.c1
  have k2 := er.c2
  have f1 := free_at er 1
  have f2 := free_at er 2
  have AF : Hid (All (refP p n base (.slice ao' L.length c') L ++ cs) ((w1.setCell ⟨p, 1, none⟩ (.int .i64 (base : Int))).setCell ⟨p, 2, none⟩ (.slice ao' L.length c'))) := hid (by
    have B2 := (A1.out.swap.setBlk 1 (.int .i64 (base : Int))).setBlk 2 (.slice ao' L.length c')
    exact B2.cab.tail)
  have HR := hid hr
  have q1 : decide ((base : Int) < 0) = false := decide_eq_false (by omega)
  have p1 : ¬ ((base : Int) < 0) := by omega
  have q2 : decide ((1099511627776 : Int) < (base : Int)) = false := decide_eq_false (by omega)
  have p2 : ¬ ((1099511627776 : Int) < (base : Int)) := by omega
  have q3 : decide ((1099511627776 : Int) < (base : Int) + (L.length : Int)) = false := decide_eq_false (by omega)
  have p3 : ¬ ((1099511627776 : Int) < (base : Int) + (L.length : Int)) := by omega
  have q4 : decide ((n : Int) < (L.length : Int)) = false := decide_eq_false (by omega)
  have p4 : ¬ ((n : Int) < (L.length : Int)) := by omega
  clear hA hr hb ho A1 er
  go_enter Try.func24, Try.ntmps24
  go_wp2_with (at_builtin; refine wpList_append_run rfl (.tmp 28) (.tmp 29) 40 rfl _ _ _ _ rfl rfl HR.out ?_)
  go_ret
  exact ⟨rfl, _, AF.out⟩
end Go.Proofs.Ythjoppgomopkfaa

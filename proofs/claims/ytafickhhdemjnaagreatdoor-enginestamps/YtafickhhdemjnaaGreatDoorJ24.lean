import Derived.Test.YtafickhhdemjnaaGreatDoorJ13
import Derived.Test.YtafickhhdemjnaaGreatDoorJ17
import Derived.Test.YtafickhhdemjnaaGreatDoorJ23
namespace Go.Proofs.YtafickhhdemjnaaGreatDoor
open Go.RowKit
set_option linter.unusedVariables false
set_option maxRecDepth 100000

/-- An engine's seven cells. -/
def engV (op g Sh Rl kop kg ev : Nat) : List Value := [.int .i64 (op : Int), .pointer (some ⟨g, 0, none⟩), .pointer (some ⟨Sh, 0, none⟩), .pointer (some ⟨Rl, 0, none⟩), .int .i64 (kop : Int), .pointer (some ⟨kg, 0, none⟩), .int .i64 (ev : Int)]
theorem at_any {w : World} {X o : Nat} {n : Int} (h : w.cell? ⟨X, o, none⟩ = some (.int .i64 n)) : Calls Tryz.prog 45 #[.pointer (some ⟨X, o, none⟩)] w fun e w' => e = .returned (.int .i64 n) ∧ w' = w := by
  go_enter Tryz.func45, Tryz.ntmps45
  go_wp2
  go_ret
  exact ⟨rfl, rfl⟩
theorem Op_any {w : World} {X : Nat} {n : Int} (h : w.cell? ⟨X, 0, none⟩ = some (.int .i64 n)) : Calls Tryz.prog 14 #[.pointer (some ⟨X, 0, none⟩)] w fun e w' => e = .returned (.int .i64 n) ∧ w' = w := by
  go_enter Tryz.func14, Tryz.ntmps14
  go_wp2_with (go_at_call 45; refine (at_any h).mono ?_; rintro e w1 ⟨rfl, h1⟩; subst w1)
  go_ret
  exact ⟨rfl, rfl⟩
theorem Base_any {w : World} {X : Nat} {n : Int} (h : w.cell? ⟨X, 4, none⟩ = some (.int .i64 n)) : Calls Tryz.prog 16 #[.pointer (some ⟨X, 0, none⟩)] w fun e w' => e = .returned (.int .i64 n) ∧ w' = w := by
  go_enter Tryz.func16, Tryz.ntmps16
  go_wp2_with (go_at_call 45; refine (at_any h).mono ?_; rintro e w1 ⟨rfl, h1⟩; subst w1)
  go_ret
  exact ⟨rfl, rfl⟩
theorem due_any {w : World} {X op ev : Nat} (h : w.cell? ⟨X, 6, none⟩ = some (.int .i64 (ev : Int))) (h1 : 1 ≤ ev) (h2 : ev ≤ 64) (ho : op ≤ 1099511627776) : Calls Tryz.prog 54 #[.pointer (some ⟨X, 4, none⟩), .int .i64 (op : Int)] w fun e w' => e = .returned (.bool (decide (op % ev = 0))) ∧ w' = w := by
  have n0 : ((ev : Int) == 0) = false := by simp; omega
  have e1 : (op : Int) % (ev : Int) = ((op % ev : Nat) : Int) := rfl
  by_cases hd : op % ev = 0
  · have d : ((op : Int) % (ev : Int) == 0) = true := by rw [e1, hd]; rfl
    have d1 : decide (op % ev = 0) = true := by simpa using hd
    rw [d1]
    clear e1 hd d1
    go_enter Tryz.func54, Tryz.ntmps54
    go_wp2
    go_ret
    exact ⟨rfl, rfl⟩
  · have d : ((op : Int) % (ev : Int) == 0) = false := by rw [e1]; simp; omega
    have d1 : decide (op % ev = 0) = false := by simpa using hd
    rw [d1]
    clear e1 hd d1
    go_enter Tryz.func54, Tryz.ntmps54
    go_wp2
    go_ret
    exact ⟨rfl, rfl⟩
theorem mayE_any {w : World} (ev : Int) : Calls Tryz.prog 20 #[.int .i64 ev] w fun e w' => e = .returned (.bool (decide (1 ≤ ev ∧ ev ≤ 64))) ∧ w' = w := by
  by_cases h1 : 1 ≤ ev
  · have e1 : decide (1 ≤ ev) = true := by simpa using h1
    have e2 : decide (1 ≤ ev ∧ ev ≤ 64) = decide (ev ≤ 64) := by rw [Bool.eq_iff_iff]; simp [h1]
    rw [e2]
    clear e2 h1
    go_enter Tryz.func20, Tryz.ntmps20
    go_wp2
    go_ret
    exact ⟨rfl, rfl⟩
  · have e1 : decide (1 ≤ ev) = false := by simpa using h1
    have e2 : decide (1 ≤ ev ∧ ev ≤ 64) = false := by simp; omega
    rw [e2]
    clear e2 h1
    go_enter Tryz.func20, Tryz.ntmps20
    go_wp2
    go_ret
    exact ⟨rfl, rfl⟩
end Go.Proofs.YtafickhhdemjnaaGreatDoor

namespace Go.Proofs.YtafickhhdemjnaaGreatDoor
open Go.RowKit
set_option linter.unusedVariables false
set_option maxRecDepth 100000

/-- An entry. -/
def entV (c q k : Int) (nm tx : ByteArray) (n m : Int) : Value := .agg #[.int .i64 c, .int .i64 q, .int .i64 k, .string nm, .string tx, .int .i64 n, .int .i64 m]
/-- It may be. -/
def mayT (c q k : Int) (nm tx : ByteArray) (n m : Int) : Bool := decide (0 ≤ c ∧ c < 8 ∧ 1 ≤ q ∧ q ≤ 1099511627776 ∧ chkA k nm.size tx.size n m = 0)
set_option maxRecDepth 1000000 in
set_option maxHeartbeats 1600000 in
theorem mayBeE_any {w : World} (hT : Tab w) (c q k : Int) (nm tx : ByteArray) (n m : Int) : Calls Tryz.prog 52 #[entV c q k nm tx n m] w fun e w' => e = .returned (.bool (mayT c q k nm tx n m)) ∧ Below w.heap.size w w' := by
  have HB := hid (ba w (.cells #[.int .i64 c, .int .i64 q, .int .i64 k, .string nm, .string tx, .int .i64 n, .int .i64 m] 36))
  have HT := hid (hT.below HB.out)
  clear hT
  unfold entV mayT
  by_cases h1 : 0 ≤ c
  case neg =>
    have e1 : decide (0 ≤ c) = false := by simpa using h1
    have e : decide (0 ≤ c ∧ c < 8 ∧ 1 ≤ q ∧ q ≤ 1099511627776 ∧ chkA k nm.size tx.size n m = 0) = false := by simp; omega
    rw [e]
    clear e h1
    go_enter Tryz.func52, Tryz.ntmps52
    go_wp2
    go_ret
    exact ⟨rfl, HB.out⟩
  have e1 : decide (0 ≤ c) = true := by simpa using h1
  by_cases h2 : c < 8
  case neg =>
    have e2 : decide (c < 8) = false := by simpa using h2
    have e : decide (0 ≤ c ∧ c < 8 ∧ 1 ≤ q ∧ q ≤ 1099511627776 ∧ chkA k nm.size tx.size n m = 0) = false := by simp; omega
    rw [e]
    clear e h1 h2
    go_enter Tryz.func52, Tryz.ntmps52
    go_wp2
    go_ret
    exact ⟨rfl, HB.out⟩
  have e2 : decide (c < 8) = true := by simpa using h2
  by_cases h3 : 1 ≤ q
  case neg =>
    have e3 : decide (1 ≤ q) = false := by simpa using h3
    have e : decide (0 ≤ c ∧ c < 8 ∧ 1 ≤ q ∧ q ≤ 1099511627776 ∧ chkA k nm.size tx.size n m = 0) = false := by simp; omega
    rw [e]
    clear e h1 h2 h3
    go_enter Tryz.func52, Tryz.ntmps52
    go_wp2
    go_ret
    exact ⟨rfl, HB.out⟩
  have e3 : decide (1 ≤ q) = true := by simpa using h3
  by_cases h4 : q ≤ 1099511627776
  case neg =>
    have e4 : decide (q ≤ 1099511627776) = false := by simpa using h4
    have e : decide (0 ≤ c ∧ c < 8 ∧ 1 ≤ q ∧ q ≤ 1099511627776 ∧ chkA k nm.size tx.size n m = 0) = false := by simp; omega
    rw [e]
    clear e h1 h2 h3 h4
    go_enter Tryz.func52, Tryz.ntmps52
    go_wp2
    go_ret
    exact ⟨rfl, HB.out⟩
  have e4 : decide (q ≤ 1099511627776) = true := by simpa using h4
  have e : decide (0 ≤ c ∧ c < 8 ∧ 1 ≤ q ∧ q ≤ 1099511627776 ∧ chkA k nm.size tx.size n m = 0) = (chkA k nm.size tx.size n m == 0) := by rw [Bool.eq_iff_iff]; simp [h1, h2, h3, h4]
  rw [e]
  have CK := hid (check_any HT.out k nm tx n m)
  generalize chkA k nm.size tx.size n m = X at *
  clear e h1 h2 h3 h4
  go_enter Tryz.func52, Tryz.ntmps52
  go_wp2_with (go_at_call 80; refine CK.out.mono ?_; rintro e w1 ⟨rfl, B1⟩; have HB1 := hid (b2 HB.out B1); clear B1)
  go_ret
  exact ⟨rfl, HB1.out⟩
end Go.Proofs.YtafickhhdemjnaaGreatDoor

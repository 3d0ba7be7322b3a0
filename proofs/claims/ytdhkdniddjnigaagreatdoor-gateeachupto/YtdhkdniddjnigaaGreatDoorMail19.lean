import Derived.Test.YtdhkdniddjnigaaGreatDoorMail18
namespace Go.Proofs.YtdhkdniddjnigaaGreatDoor
open Go.RowKit
set_option linter.unusedVariables false

def Ms.zR (m : Ms) : Bool := decide (m.rc = 0 ∧ m.rn = 0 ∧ m.rl = 0)
def Ms.zG (m : Ms) : Bool := decide (m.cf = 0 ∧ m.cb = 0 ∧ m.sl = 0 ∧ m.xl = 0)
def Ms.zO (m : Ms) : Bool := decide (m.ok = 0 ∧ m.onm.toList = [] ∧ m.otx.toList = [] ∧ m.on = 0 ∧ m.om = 0)
set_option maxRecDepth 1000000 in
theorem zeroR {w : World} {b : Nat} {m : Ms} (h : MsAt w b m) : Calls Tryz.prog 128 #[.pointer (some ⟨b, 0, none⟩), .int .i32 82] w fun e w' => e = .returned (.bool m.zR) ∧ w' = w := by
  have k15 : w.cell? ⟨b, 15, none⟩ = some (.int .i64 m.rc) := h 15 _ rfl
  have k16 : w.cell? ⟨b, 16, none⟩ = some (.int .i64 m.rn) := h 16 _ rfl
  have k17 : w.cell? ⟨b, 17, none⟩ = some (.slice m.ra m.rl m.rp) := h 17 _ rfl
  clear h
  by_cases c0 : m.rc = 0
  rotate_left
  · have F : Hid (m.zR = false) := hid (decide_eq_false (by omega))
    have e0 : (m.rc == 0) = false := by simp; omega
    clear c0
    go_enter Tryz.func128, Tryz.ntmps128
    go_wp2
    go_ret
    exact ⟨by rw [F.out]; rfl, rfl⟩
  have e0 : (m.rc == 0) = true := by simp; omega
  by_cases c1 : m.rn = 0
  rotate_left
  · have F : Hid (m.zR = false) := hid (decide_eq_false (by omega))
    have e1 : (m.rn == 0) = false := by simp; omega
    clear c0 c1
    go_enter Tryz.func128, Tryz.ntmps128
    go_wp2
    go_ret
    exact ⟨by rw [F.out]; rfl, rfl⟩
  have e1 : (m.rn == 0) = true := by simp; omega
  by_cases c2 : m.rl = 0
  rotate_left
  · have F : Hid (m.zR = false) := hid (decide_eq_false (by omega))
    have e2 : ((m.rl : Int) == 0) = false := by simp; omega
    clear c0 c1 c2
    go_enter Tryz.func128, Tryz.ntmps128
    go_wp2
    go_ret
    exact ⟨by rw [F.out]; rfl, rfl⟩
  have e2 : ((m.rl : Int) == 0) = true := by simp; omega
  have F : Hid (m.zR = true) := hid (decide_eq_true (by omega))
  clear c0 c1 c2
  go_enter Tryz.func128, Tryz.ntmps128
  go_wp2
  go_ret
  exact ⟨by rw [F.out]; rfl, rfl⟩
set_option maxRecDepth 1000000 in
theorem zeroG {w : World} {b : Nat} {m : Ms} (h : MsAt w b m) : Calls Tryz.prog 128 #[.pointer (some ⟨b, 0, none⟩), .int .i32 71] w fun e w' => e = .returned (.bool m.zG) ∧ w' = w := by
  have k19 : w.cell? ⟨b, 19, none⟩ = some (.int .i64 m.cf) := h 19 _ rfl
  have k20 : w.cell? ⟨b, 20, none⟩ = some (.int .i64 m.cb) := h 20 _ rfl
  have k21 : w.cell? ⟨b, 21, none⟩ = some (.slice m.sa m.sl m.sp) := h 21 _ rfl
  have k22 : w.cell? ⟨b, 22, none⟩ = some (.slice m.xa m.xl m.xp) := h 22 _ rfl
  clear h
  by_cases c0 : m.cf = 0
  rotate_left
  · have F : Hid (m.zG = false) := hid (decide_eq_false (by omega))
    have e0 : (m.cf == 0) = false := by simp; omega
    clear c0
    go_enter Tryz.func128, Tryz.ntmps128
    go_wp2
    go_ret
    exact ⟨by rw [F.out]; rfl, rfl⟩
  have e0 : (m.cf == 0) = true := by simp; omega
  by_cases c1 : m.cb = 0
  rotate_left
  · have F : Hid (m.zG = false) := hid (decide_eq_false (by omega))
    have e1 : (m.cb == 0) = false := by simp; omega
    clear c0 c1
    go_enter Tryz.func128, Tryz.ntmps128
    go_wp2
    go_ret
    exact ⟨by rw [F.out]; rfl, rfl⟩
  have e1 : (m.cb == 0) = true := by simp; omega
  by_cases c2 : m.sl = 0
  rotate_left
  · have F : Hid (m.zG = false) := hid (decide_eq_false (by omega))
    have e2 : ((m.sl : Int) == 0) = false := by simp; omega
    clear c0 c1 c2
    go_enter Tryz.func128, Tryz.ntmps128
    go_wp2
    go_ret
    exact ⟨by rw [F.out]; rfl, rfl⟩
  have e2 : ((m.sl : Int) == 0) = true := by simp; omega
  by_cases c3 : m.xl = 0
  rotate_left
  · have F : Hid (m.zG = false) := hid (decide_eq_false (by omega))
    have e3 : ((m.xl : Int) == 0) = false := by simp; omega
    clear c0 c1 c2 c3
    go_enter Tryz.func128, Tryz.ntmps128
    go_wp2
    go_ret
    exact ⟨by rw [F.out]; rfl, rfl⟩
  have e3 : ((m.xl : Int) == 0) = true := by simp; omega
  have F : Hid (m.zG = true) := hid (decide_eq_true (by omega))
  clear c0 c1 c2 c3
  go_enter Tryz.func128, Tryz.ntmps128
  go_wp2
  go_ret
  exact ⟨by rw [F.out]; rfl, rfl⟩
set_option maxRecDepth 1000000 in
theorem zeroO {w : World} {b : Nat} {m : Ms} (h : MsAt w b m) : Calls Tryz.prog 128 #[.pointer (some ⟨b, 0, none⟩), .int .i32 79] w fun e w' => e = .returned (.bool m.zO) ∧ w' = w := by
  have k10 : w.cell? ⟨b, 10, none⟩ = some (.int .i64 m.ok) := h 10 _ rfl
  have k11 : w.cell? ⟨b, 11, none⟩ = some (.string m.onm) := h 11 _ rfl
  have k12 : w.cell? ⟨b, 12, none⟩ = some (.string m.otx) := h 12 _ rfl
  have k13 : w.cell? ⟨b, 13, none⟩ = some (.int .i64 m.on) := h 13 _ rfl
  have k14 : w.cell? ⟨b, 14, none⟩ = some (.int .i64 m.om) := h 14 _ rfl
  clear h
  go_enter Tryz.func128, Tryz.ntmps128
  go_wp2
  all_goals
    go_ret
    exact ⟨by simp [Ms.zO, *], rfl⟩
end Go.Proofs.YtdhkdniddjnigaaGreatDoor

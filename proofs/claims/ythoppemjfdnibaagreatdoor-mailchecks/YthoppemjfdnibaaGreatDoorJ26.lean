import Derived.Test.YthoppemjfdnibaaGreatDoorJ25
namespace Go.Proofs.YthoppemjfdnibaaGreatDoor
open Go.RowKit
set_option linter.unusedVariables false

/-- May a cargo be? -/
def cgB (f b : Int) (ls : List Sh) (le : List Ent) : Bool := opsB f b le.length && (shsB f b (-1) ls && le.all entB)
def cgE (z : Bool) : Int := if z then 0 else 100
set_option maxHeartbeats 1600000 in
set_option maxRecDepth 1000000 in
theorem cargo_any {w : World} (hT : Tab w) (f b : Int) {sa xa : Option Addr} {ls : List Sh} {le : List Ent} (hs : Shs w sa ls) (he : Ents w xa le) (sp xp : Nat) (hls : ls.length ≤ 9223372036854775807) (hle : le.length ≤ 9223372036854775807) : Calls Tryz.prog 108 #[cgV f b sa ls.length sp xa le.length xp] w fun e w' => e = .returned (.int .i64 (cgE (cgB f b ls le))) ∧ Below w.heap.size w w' := by
  obtain ⟨w0, hw0⟩ : ∃ w0, Hid (w.alloc (.cells #[.int .i64 f, .int .i64 b, .slice sa ls.length sp, .slice xa le.length xp] 32) = w0) := ⟨_, hid rfl⟩
  obtain ⟨K, hK⟩ : ∃ K, Hid (w.heap.size = K) := ⟨_, hid rfl⟩
  have Q0 : Hid (w0.cell? ⟨K, 0, none⟩ = some (.int .i64 f)) := hid (by rw [← hw0.out, ← hK.out]; simp)
  have Q1 : Hid (w0.cell? ⟨K, 1, none⟩ = some (.int .i64 b)) := hid (by rw [← hw0.out, ← hK.out]; simp)
  have Q2 : Hid (w0.cell? ⟨K, 2, none⟩ = some (.slice sa ls.length sp)) := hid (by rw [← hw0.out, ← hK.out]; simp)
  have Q3 : Hid (w0.cell? ⟨K, 3, none⟩ = some (.slice xa le.length xp)) := hid (by rw [← hw0.out, ← hK.out]; simp)
  have KW : Hid ((⟨K, 0, none⟩ : Addr).block < w0.heap.size) := hid (by rw [← hw0.out, ← hK.out]; simp)
  have bw : Hid (Below w.heap.size w w0) := hid (by rw [← hw0.out]; exact ba _ _)
  have BW : Hid (∀ W, Below w0.heap.size w0 W → Below w.heap.size w W) := hid (fun W hW => bw.out.trans (hW.mono bw.out.size))
  have C1 : Hid (∀ W, Below w0.heap.size w0 W → Calls Tryz.prog 143 #[cgV f b sa ls.length sp xa le.length xp] W fun e w' => e = .returned (.bool (opsB f b le.length)) ∧ Below w0.heap.size w0 w') := hid (fun W hW => (ops_any f b sa ls.length sp xa le.length xp).mono fun e w' ⟨h1, h2⟩ => ⟨h1, hW.trans (h2.mono hW.size)⟩)
  have C2 : Hid (∀ W, Below w0.heap.size w0 W → Calls Tryz.prog 144 #[cgV f b sa ls.length sp xa le.length xp] W fun e w' => e = .returned (.bool (shsB f b (-1) ls)) ∧ Below w0.heap.size w0 w') := hid (fun W hW => (sheets_any f b (hs.later (BW.out W hW)) sp xa le.length xp hls).mono fun e w' ⟨h1, h2⟩ => ⟨h1, hW.trans (h2.mono hW.size)⟩)
  have C3 : Hid (∀ W, Below w0.heap.size w0 W → Calls Tryz.prog 145 #[.slice xa le.length xp] W fun e w' => e = .returned (.bool (le.all entB)) ∧ Below w0.heap.size w0 w') := hid (fun W hW => (ents_any (hT.below (BW.out W hW)) (he.later (BW.out W hW)) xp hle).mono fun e w' ⟨h1, h2⟩ => ⟨h1, hW.trans (h2.mono hW.size)⟩)
  have E : Hid (cgB f b ls le = (opsB f b le.length && (shsB f b (-1) ls && le.all entB))) := hid rfl
  generalize opsB f b le.length = z1 at C1 E
  generalize shsB f b (-1) ls = z2 at C2 E
  generalize le.all entB = z3 at C3 E
  generalize cgB f b ls le = z at E ⊢
  clear hT hs he
  have q0 := Q0.out
  have q1 := Q1.out
  have q2 := Q2.out
  have q3 := Q3.out
  go_enter Tryz.func108, Tryz.ntmps108
  go_upto_region 1 with fail
  rw [hw0.out, hK.out]
  go_wp2_with fail
  refine (C1.out _ (Below.refl _ _)).mono ?_
  rintro e w1 ⟨rfl, B1⟩
  have B1 := hid B1
  clear q0 q1 q2 q3 hw0
  cases z1
  · have F : Hid (z = false) := hid (by rw [E.out]; rfl)
    go_wp2
    go_ret
    exact ⟨by rw [F.out]; rfl, BW.out _ B1.out⟩
  have q0 : w1.cell? ⟨K, 0, none⟩ = some (.int .i64 f) := cell_under B1.out KW.out Q0.out
  have q1 : w1.cell? ⟨K, 1, none⟩ = some (.int .i64 b) := cell_under B1.out KW.out Q1.out
  have q2 : w1.cell? ⟨K, 2, none⟩ = some (.slice sa ls.length sp) := cell_under B1.out KW.out Q2.out
  have q3 : w1.cell? ⟨K, 3, none⟩ = some (.slice xa le.length xp) := cell_under B1.out KW.out Q3.out
  go_wp2_with fail
  refine (C2.out _ B1.out).mono ?_
  rintro e w2 ⟨rfl, B2⟩
  have B2 := hid B2
  clear q0 q1 q2 q3
  cases z2
  · have F : Hid (z = false) := hid (by rw [E.out]; rfl)
    go_wp2
    go_ret
    exact ⟨by rw [F.out]; rfl, BW.out _ B2.out⟩
  have q3 : w2.cell? ⟨K, 3, none⟩ = some (.slice xa le.length xp) := cell_under B2.out KW.out Q3.out
  go_wp2_with fail
  refine (C3.out _ B2.out).mono ?_
  rintro e w3 ⟨rfl, B3⟩
  have B3 := hid B3
  clear q3
  cases z3
  · have F : Hid (z = false) := hid (by rw [E.out]; rfl)
    go_wp2
    go_ret
    exact ⟨by rw [F.out]; rfl, BW.out _ B3.out⟩
  · have F : Hid (z = true) := hid (by rw [E.out]; rfl)
    go_wp2
    go_ret
    exact ⟨by rw [F.out]; rfl, BW.out _ B3.out⟩
end Go.Proofs.YthoppemjfdnibaaGreatDoor

namespace Go.Proofs.YthoppemjfdnibaaGreatDoor
open Go.RowKit
set_option linter.unusedVariables false

def Ms.zR (m : Ms) : Bool := decide (m.rc = 0 ∧ m.rn = 0 ∧ m.rl = 0)
def Ms.zG (m : Ms) : Bool := decide (m.cf = 0 ∧ m.cb = 0 ∧ m.sl = 0 ∧ m.xl = 0)
def Ms.zO (m : Ms) : Bool := decide (m.ok = 0 ∧ m.onm.toList = [] ∧ m.otx.toList = [] ∧ m.on = 0 ∧ m.om = 0)
set_option maxRecDepth 1000000 in
theorem zeroR {w : World} {b : Nat} {m : Ms} (h : MsAt w b m) : Calls Tryz.prog 77 #[.pointer (some ⟨b, 0, none⟩), .int .i32 82] w fun e w' => e = .returned (.bool m.zR) ∧ w' = w := by
  have k15 : w.cell? ⟨b, 15, none⟩ = some (.int .i64 m.rc) := h 15 _ rfl
  have k16 : w.cell? ⟨b, 16, none⟩ = some (.int .i64 m.rn) := h 16 _ rfl
  have k17 : w.cell? ⟨b, 17, none⟩ = some (.slice m.ra m.rl m.rp) := h 17 _ rfl
  clear h
  by_cases c0 : m.rc = 0
  rotate_left
  · have F : Hid (m.zR = false) := hid (decide_eq_false (by omega))
    have e0 : (m.rc == 0) = false := by simp; omega
    clear c0
    go_enter Tryz.func77, Tryz.ntmps77
    go_wp2
    go_ret
    exact ⟨by rw [F.out]; rfl, rfl⟩
  have e0 : (m.rc == 0) = true := by simp; omega
  by_cases c1 : m.rn = 0
  rotate_left
  · have F : Hid (m.zR = false) := hid (decide_eq_false (by omega))
    have e1 : (m.rn == 0) = false := by simp; omega
    clear c0 c1
    go_enter Tryz.func77, Tryz.ntmps77
    go_wp2
    go_ret
    exact ⟨by rw [F.out]; rfl, rfl⟩
  have e1 : (m.rn == 0) = true := by simp; omega
  by_cases c2 : m.rl = 0
  rotate_left
  · have F : Hid (m.zR = false) := hid (decide_eq_false (by omega))
    have e2 : ((m.rl : Int) == 0) = false := by simp; omega
    clear c0 c1 c2
    go_enter Tryz.func77, Tryz.ntmps77
    go_wp2
    go_ret
    exact ⟨by rw [F.out]; rfl, rfl⟩
  have e2 : ((m.rl : Int) == 0) = true := by simp; omega
  have F : Hid (m.zR = true) := hid (decide_eq_true (by omega))
  clear c0 c1 c2
  go_enter Tryz.func77, Tryz.ntmps77
  go_wp2
  go_ret
  exact ⟨by rw [F.out]; rfl, rfl⟩
set_option maxRecDepth 1000000 in
theorem zeroG {w : World} {b : Nat} {m : Ms} (h : MsAt w b m) : Calls Tryz.prog 77 #[.pointer (some ⟨b, 0, none⟩), .int .i32 71] w fun e w' => e = .returned (.bool m.zG) ∧ w' = w := by
  have k19 : w.cell? ⟨b, 19, none⟩ = some (.int .i64 m.cf) := h 19 _ rfl
  have k20 : w.cell? ⟨b, 20, none⟩ = some (.int .i64 m.cb) := h 20 _ rfl
  have k21 : w.cell? ⟨b, 21, none⟩ = some (.slice m.sa m.sl m.sp) := h 21 _ rfl
  have k22 : w.cell? ⟨b, 22, none⟩ = some (.slice m.xa m.xl m.xp) := h 22 _ rfl
  clear h
  by_cases c0 : m.cf = 0
  rotate_left
  · have F : Hid (m.zG = false) := hid (decide_eq_false (by omega))
    have e0 : (m.cf == 0) = false := by simp; omega
    clear c0
    go_enter Tryz.func77, Tryz.ntmps77
    go_wp2
    go_ret
    exact ⟨by rw [F.out]; rfl, rfl⟩
  have e0 : (m.cf == 0) = true := by simp; omega
  by_cases c1 : m.cb = 0
  rotate_left
  · have F : Hid (m.zG = false) := hid (decide_eq_false (by omega))
    have e1 : (m.cb == 0) = false := by simp; omega
    clear c0 c1
    go_enter Tryz.func77, Tryz.ntmps77
    go_wp2
    go_ret
    exact ⟨by rw [F.out]; rfl, rfl⟩
  have e1 : (m.cb == 0) = true := by simp; omega
  by_cases c2 : m.sl = 0
  rotate_left
  · have F : Hid (m.zG = false) := hid (decide_eq_false (by omega))
    have e2 : ((m.sl : Int) == 0) = false := by simp; omega
    clear c0 c1 c2
    go_enter Tryz.func77, Tryz.ntmps77
    go_wp2
    go_ret
    exact ⟨by rw [F.out]; rfl, rfl⟩
  have e2 : ((m.sl : Int) == 0) = true := by simp; omega
  by_cases c3 : m.xl = 0
  rotate_left
  · have F : Hid (m.zG = false) := hid (decide_eq_false (by omega))
    have e3 : ((m.xl : Int) == 0) = false := by simp; omega
    clear c0 c1 c2 c3
    go_enter Tryz.func77, Tryz.ntmps77
    go_wp2
    go_ret
    exact ⟨by rw [F.out]; rfl, rfl⟩
  have e3 : ((m.xl : Int) == 0) = true := by simp; omega
  have F : Hid (m.zG = true) := hid (decide_eq_true (by omega))
  clear c0 c1 c2 c3
  go_enter Tryz.func77, Tryz.ntmps77
  go_wp2
  go_ret
  exact ⟨by rw [F.out]; rfl, rfl⟩
set_option maxRecDepth 1000000 in
theorem zeroO {w : World} {b : Nat} {m : Ms} (h : MsAt w b m) : Calls Tryz.prog 77 #[.pointer (some ⟨b, 0, none⟩), .int .i32 79] w fun e w' => e = .returned (.bool m.zO) ∧ w' = w := by
  have k10 : w.cell? ⟨b, 10, none⟩ = some (.int .i64 m.ok) := h 10 _ rfl
  have k11 : w.cell? ⟨b, 11, none⟩ = some (.string m.onm) := h 11 _ rfl
  have k12 : w.cell? ⟨b, 12, none⟩ = some (.string m.otx) := h 12 _ rfl
  have k13 : w.cell? ⟨b, 13, none⟩ = some (.int .i64 m.on) := h 13 _ rfl
  have k14 : w.cell? ⟨b, 14, none⟩ = some (.int .i64 m.om) := h 14 _ rfl
  clear h
  go_enter Tryz.func77, Tryz.ntmps77
  go_wp2
  all_goals
    go_ret
    exact ⟨by simp [Ms.zO, *], rfl⟩
end Go.Proofs.YthoppemjfdnibaaGreatDoor

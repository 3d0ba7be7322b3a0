import Derived.Test.YteloaggebkbeeaaDoorJ6
import Derived.Deep.RegionHeld3
import Derived.Deep.DeepCutAuto
import Derived.Deep.QuietTactic
import Derived.BigQuiet
namespace Go.Proofs.YteloaggebkbeeaaDoor
open Go.RowKit
set_option linter.unusedVariables false

/-- A message. -/
structure Ms where
  k : Int
  f : Int
  t : Int
  v : Int
  n : Int
  c : Int
  o : Int
  l : Int
  q : Int
  h : Bool
  ok : Int
  onm : ByteArray
  otx : ByteArray
  on : Int
  om : Int
  rc : Int
  rn : Int
  ra : Option Addr
  rl : Nat
  rp : Nat
  ea : Option Addr
  el : Nat
  ep : Nat
  cf : Int
  cb : Int
  sa : Option Addr
  sl : Nat
  sp : Nat
  xa : Option Addr
  xl : Nat
  xp : Nat
def Ms.cells (m : Ms) : List Value := [.int .i64 m.k, .int .i64 m.f, .int .i64 m.t, .int .i64 m.v, .int .i64 m.n, .int .i64 m.c, .int .i64 m.o, .int .i64 m.l, .int .i64 m.q, .bool m.h, .int .i64 m.ok, .string m.onm, .string m.otx, .int .i64 m.on, .int .i64 m.om, .int .i64 m.rc, .int .i64 m.rn, .slice m.ra m.rl m.rp, .slice m.ea m.el m.ep, .int .i64 m.cf, .int .i64 m.cb, .slice m.sa m.sl m.sp, .slice m.xa m.xl m.xp]
/-- It lies here. -/
def MsAt (w : World) (b : Nat) (m : Ms) : Prop := ∀ j u, m.cells[j]? = some u → w.cell? ⟨b, j, none⟩ = some u
theorem MsAt.under {w w' : World} {b : Nat} {m : Ms} (h : MsAt w b m) (hb : Below w.heap.size w w') : MsAt w' b m := fun j u hu => by
  have h1 := h j u hu
  exact cell_under hb (World.block_lt_of_cell? _ _ h1) h1
theorem zeroV {w : World} {b : Nat} {m : Ms} (h : MsAt w b m) : Calls Tryd.prog 83 #[.pointer (some ⟨b, 0, none⟩), .int .i32 86] w fun e w' => e = .returned (.bool (m.v == 0)) ∧ w' = w := by
  have c : w.cell? ⟨b, 3, none⟩ = some (.int .i64 m.v) := h 3 _ rfl
  clear h
  go_enter Tryd.func83, Tryd.ntmps83
  go_wp2
  go_ret
  exact ⟨rfl, rfl⟩
theorem zeroK {w : World} {b : Nat} {m : Ms} (h : MsAt w b m) : Calls Tryd.prog 83 #[.pointer (some ⟨b, 0, none⟩), .int .i32 75] w fun e w' => e = .returned (.bool (m.n == 0)) ∧ w' = w := by
  have c : w.cell? ⟨b, 4, none⟩ = some (.int .i64 m.n) := h 4 _ rfl
  clear h
  go_enter Tryd.func83, Tryd.ntmps83
  go_wp2
  go_ret
  exact ⟨rfl, rfl⟩
theorem zeroC {w : World} {b : Nat} {m : Ms} (h : MsAt w b m) : Calls Tryd.prog 83 #[.pointer (some ⟨b, 0, none⟩), .int .i32 67] w fun e w' => e = .returned (.bool (m.c == 0)) ∧ w' = w := by
  have c : w.cell? ⟨b, 5, none⟩ = some (.int .i64 m.c) := h 5 _ rfl
  clear h
  go_enter Tryd.func83, Tryd.ntmps83
  go_wp2
  go_ret
  exact ⟨rfl, rfl⟩
theorem zeroN {w : World} {b : Nat} {m : Ms} (h : MsAt w b m) : Calls Tryd.prog 83 #[.pointer (some ⟨b, 0, none⟩), .int .i32 78] w fun e w' => e = .returned (.bool (m.o == 0)) ∧ w' = w := by
  have c : w.cell? ⟨b, 6, none⟩ = some (.int .i64 m.o) := h 6 _ rfl
  clear h
  go_enter Tryd.func83, Tryd.ntmps83
  go_wp2
  go_ret
  exact ⟨rfl, rfl⟩
theorem zeroL {w : World} {b : Nat} {m : Ms} (h : MsAt w b m) : Calls Tryd.prog 83 #[.pointer (some ⟨b, 0, none⟩), .int .i32 76] w fun e w' => e = .returned (.bool (m.l == 0)) ∧ w' = w := by
  have c : w.cell? ⟨b, 7, none⟩ = some (.int .i64 m.l) := h 7 _ rfl
  clear h
  go_enter Tryd.func83, Tryd.ntmps83
  go_wp2
  go_ret
  exact ⟨rfl, rfl⟩
theorem zeroQ {w : World} {b : Nat} {m : Ms} (h : MsAt w b m) : Calls Tryd.prog 83 #[.pointer (some ⟨b, 0, none⟩), .int .i32 81] w fun e w' => e = .returned (.bool (m.q == 0)) ∧ w' = w := by
  have c : w.cell? ⟨b, 8, none⟩ = some (.int .i64 m.q) := h 8 _ rfl
  clear h
  go_enter Tryd.func83, Tryd.ntmps83
  go_wp2
  go_ret
  exact ⟨rfl, rfl⟩
theorem zeroH {w : World} {b : Nat} {m : Ms} (h : MsAt w b m) : Calls Tryd.prog 83 #[.pointer (some ⟨b, 0, none⟩), .int .i32 72] w fun e w' => e = .returned (.bool (!m.h)) ∧ w' = w := by
  have c : w.cell? ⟨b, 9, none⟩ = some (.bool m.h) := h 9 _ rfl
  clear h
  go_enter Tryd.func83, Tryd.ntmps83
  go_wp2
  go_ret
  exact ⟨rfl, rfl⟩
theorem zeroE {w : World} {b : Nat} {m : Ms} (h : MsAt w b m) : Calls Tryd.prog 83 #[.pointer (some ⟨b, 0, none⟩), .int .i32 69] w fun e w' => e = .returned (.bool ((m.el : Int) == 0)) ∧ w' = w := by
  have c : w.cell? ⟨b, 18, none⟩ = some (.slice m.ea m.el m.ep) := h 18 _ rfl
  clear h
  go_enter Tryd.func83, Tryd.ntmps83
  go_wp2
  go_ret
  exact ⟨by simp, rfl⟩
theorem zeroR0 {w : World} {b : Nat} {m : Ms} (h : MsAt w b m) (h1 : m.rc = 0) (h2 : m.rn = 0) (h3 : m.rl = 0) : Calls Tryd.prog 83 #[.pointer (some ⟨b, 0, none⟩), .int .i32 82] w fun e w' => e = .returned (.bool true) ∧ w' = w := by
  have c1 : w.cell? ⟨b, 15, none⟩ = some (.int .i64 0) := by rw [← h1]; exact h 15 _ rfl
  have c2 : w.cell? ⟨b, 16, none⟩ = some (.int .i64 0) := by rw [← h2]; exact h 16 _ rfl
  have c3 : w.cell? ⟨b, 17, none⟩ = some (.slice m.ra 0 m.rp) := by rw [← h3]; exact h 17 _ rfl
  clear h h1 h2 h3
  go_enter Tryd.func83, Tryd.ntmps83
  go_wp2
  go_ret
  exact ⟨rfl, rfl⟩
theorem zeroG0 {w : World} {b : Nat} {m : Ms} (h : MsAt w b m) (h1 : m.cf = 0) (h2 : m.cb = 0) (h3 : m.sl = 0) (h4 : m.xl = 0) : Calls Tryd.prog 83 #[.pointer (some ⟨b, 0, none⟩), .int .i32 71] w fun e w' => e = .returned (.bool true) ∧ w' = w := by
  have c1 : w.cell? ⟨b, 19, none⟩ = some (.int .i64 0) := by rw [← h1]; exact h 19 _ rfl
  have c2 : w.cell? ⟨b, 20, none⟩ = some (.int .i64 0) := by rw [← h2]; exact h 20 _ rfl
  have c3 : w.cell? ⟨b, 21, none⟩ = some (.slice m.sa 0 m.sp) := by rw [← h3]; exact h 21 _ rfl
  have c4 : w.cell? ⟨b, 22, none⟩ = some (.slice m.xa 0 m.xp) := by rw [← h4]; exact h 22 _ rfl
  clear h h1 h2 h3 h4
  go_enter Tryd.func83, Tryd.ntmps83
  go_wp2
  go_ret
  exact ⟨rfl, rfl⟩
theorem zeroO0 {w : World} {b : Nat} {m : Ms} (h : MsAt w b m) (h1 : m.ok = 0) (h2 : m.onm = ⟨#[]⟩) (h3 : m.otx = ⟨#[]⟩) (h4 : m.on = 0) (h5 : m.om = 0) : Calls Tryd.prog 83 #[.pointer (some ⟨b, 0, none⟩), .int .i32 79] w fun e w' => e = .returned (.bool true) ∧ w' = w := by
  have c1 : w.cell? ⟨b, 10, none⟩ = some (.int .i64 0) := by rw [← h1]; exact h 10 _ rfl
  have c2 : w.cell? ⟨b, 11, none⟩ = some (.string ⟨#[]⟩) := by rw [← h2]; exact h 11 _ rfl
  have c3 : w.cell? ⟨b, 12, none⟩ = some (.string ⟨#[]⟩) := by rw [← h3]; exact h 12 _ rfl
  have c4 : w.cell? ⟨b, 13, none⟩ = some (.int .i64 0) := by rw [← h4]; exact h 13 _ rfl
  have c5 : w.cell? ⟨b, 14, none⟩ = some (.int .i64 0) := by rw [← h5]; exact h 14 _ rfl
  clear h h1 h2 h3 h4 h5
  go_enter Tryd.func83, Tryd.ntmps83
  go_wp2
  go_ret
  exact ⟨rfl, rfl⟩
end Go.Proofs.YteloaggebkbeeaaDoor

namespace Go.Proofs.YteloaggebkbeeaaDoor
open Go.RowKit
set_option linter.unusedVariables false

def lstK (k : Int) : Int := if k = 4 then 1 else 0
theorem least_any {w : World} (k : Int) : Calls Tryd.prog 90 #[.int .i64 k] w fun e w' => e = .returned (.int .i64 (lstK k)) ∧ w' = w := by
  by_cases h : k = 4
  · subst h
    go_enter Tryd.func90, Tryd.ntmps90
    go_wp2
    go_ret
    exact ⟨by simp [lstK], rfl⟩
  · have e1 : (k == 4) = false := by simpa using h
    go_enter Tryd.func90, Tryd.ntmps90
    go_wp2
    go_ret
    exact ⟨by simp [lstK, h], rfl⟩
def inR (n a b : Int) : Bool := decide (a ≤ n ∧ n ≤ b)
theorem within_b {w : World} (n a b : Int) : Calls Tryd.prog 79 #[.int .i64 n, .int .i64 a, .int .i64 b] w fun e w' => e = .returned (.bool (inR n a b)) ∧ w' = w := within_any n a b
theorem mayV {w : World} {b : Nat} {m : Ms} (h : MsAt w b m) : Calls Tryd.prog 81 #[.pointer (some ⟨b, 0, none⟩), .int .i32 86] w fun e w' => e = .returned (.bool (inR m.v 0 1099511627776)) ∧ w' = w := by
  have c : w.cell? ⟨b, 3, none⟩ = some (.int .i64 m.v) := h 3 _ rfl
  clear h
  go_enter Tryd.func81, Tryd.ntmps81
  go_wp2_with fail
  refine (within_b _ _ _).mono ?_
  rintro e w' ⟨rfl, rfl⟩
  go_wp2
  go_ret
  exact ⟨rfl, rfl⟩
theorem mayC {w : World} {b : Nat} {m : Ms} (h : MsAt w b m) : Calls Tryd.prog 81 #[.pointer (some ⟨b, 0, none⟩), .int .i32 67] w fun e w' => e = .returned (.bool (inR m.c 0 1099511627776)) ∧ w' = w := by
  have c : w.cell? ⟨b, 5, none⟩ = some (.int .i64 m.c) := h 5 _ rfl
  clear h
  go_enter Tryd.func81, Tryd.ntmps81
  go_wp2_with fail
  refine (within_b _ _ _).mono ?_
  rintro e w' ⟨rfl, rfl⟩
  go_wp2
  go_ret
  exact ⟨rfl, rfl⟩
theorem mayL {w : World} {b : Nat} {m : Ms} (h : MsAt w b m) : Calls Tryd.prog 81 #[.pointer (some ⟨b, 0, none⟩), .int .i32 76] w fun e w' => e = .returned (.bool (inR m.l 1 1099511627776)) ∧ w' = w := by
  have c : w.cell? ⟨b, 7, none⟩ = some (.int .i64 m.l) := h 7 _ rfl
  clear h
  go_enter Tryd.func81, Tryd.ntmps81
  go_wp2_with fail
  refine (within_b _ _ _).mono ?_
  rintro e w' ⟨rfl, rfl⟩
  go_wp2
  go_ret
  exact ⟨rfl, rfl⟩
theorem mayQ {w : World} {b : Nat} {m : Ms} (h : MsAt w b m) : Calls Tryd.prog 81 #[.pointer (some ⟨b, 0, none⟩), .int .i32 81] w fun e w' => e = .returned (.bool (inR m.q 1 1099511627776)) ∧ w' = w := by
  have c : w.cell? ⟨b, 8, none⟩ = some (.int .i64 m.q) := h 8 _ rfl
  clear h
  go_enter Tryd.func81, Tryd.ntmps81
  go_wp2_with fail
  refine (within_b _ _ _).mono ?_
  rintro e w' ⟨rfl, rfl⟩
  go_wp2
  go_ret
  exact ⟨rfl, rfl⟩
theorem mayN {w : World} {b : Nat} {m : Ms} (h : MsAt w b m) : Calls Tryd.prog 81 #[.pointer (some ⟨b, 0, none⟩), .int .i32 78] w fun e w' => e = .returned (.bool (inR m.o 0 m.v)) ∧ Below w.heap.size w w' := by
  have c0 : w.cell? ⟨b, 6, none⟩ = some (.int .i64 m.o) := h 6 _ rfl
  have c1 : w.cell? ⟨b, 3, none⟩ = some (.int .i64 m.v) := h 3 _ rfl
  have A0 := hid (All.came w)
  have SS : Hid (∀ W, All [inC w] W → W.cell? ⟨b, 6, none⟩ = some (.int .i64 m.o) ∧ W.cell? ⟨b, 3, none⟩ = some (.int .i64 m.v)) := hid (fun W hW => by
    have hm := h.under (hW.into (w0 := w) (by simp))
    exact ⟨hm 6 _ rfl, hm 3 _ rfl⟩)
  have p0 := hid (SS.out _ A0.out)
  clear h
  go_enter Tryd.func81, Tryd.ntmps81
  go_wp2_with fail
  go_region_held3 (fun W => W.cell? ⟨b, 6, none⟩ = some (.int .i64 m.o) ∧ W.cell? ⟨b, 3, none⟩ = some (.int .i64 m.v)) (first | exact p0.out | exact p1.out)
    ((go_at_call 79; refine (within_b _ _ _).mono ?_; rintro e w1 ⟨rfl, hw1⟩; have A1 := hid (A0.out.drew); rw [← hw1] at A1; have p1 := hid (SS.out _ A1.out); clear hw1))
  clear p0 p1 c0 c1
  go_wp2
  go_ret
  exact ⟨rfl, A1.out.into (w0 := w) (by simp)⟩
theorem mayK {w : World} {b : Nat} {m : Ms} (h : MsAt w b m) : Calls Tryd.prog 81 #[.pointer (some ⟨b, 0, none⟩), .int .i32 75] w fun e w' => e = .returned (.bool (inR m.n (lstK m.k) 1099511627776)) ∧ Below w.heap.size w w' := by
  have c0 : w.cell? ⟨b, 4, none⟩ = some (.int .i64 m.n) := h 4 _ rfl
  have c1 : w.cell? ⟨b, 0, none⟩ = some (.int .i64 m.k) := h 0 _ rfl
  have A0 := hid (All.came w)
  have SS : Hid (∀ W, All [inC w] W → W.cell? ⟨b, 4, none⟩ = some (.int .i64 m.n) ∧ W.cell? ⟨b, 0, none⟩ = some (.int .i64 m.k)) := hid (fun W hW => by
    have hm := h.under (hW.into (w0 := w) (by simp))
    exact ⟨hm 4 _ rfl, hm 0 _ rfl⟩)
  have p0 := hid (SS.out _ A0.out)
  clear h
  go_enter Tryd.func81, Tryd.ntmps81
  go_wp2_with fail
  go_region_held3 (fun W => W.cell? ⟨b, 4, none⟩ = some (.int .i64 m.n) ∧ W.cell? ⟨b, 0, none⟩ = some (.int .i64 m.k)) (first | exact p0.out | exact p1.out | exact p2.out)
    (first
      | (go_at_call 90; refine (least_any _).mono ?_; rintro e w1 ⟨rfl, hw1⟩; have A1 := hid (A0.out.drew); rw [← hw1] at A1; have p1 := hid (SS.out _ A1.out); clear hw1)
      | (go_at_call 79; refine (within_b _ _ _).mono ?_; rintro e w2 ⟨rfl, hw2⟩; have A2 := hid (A1.out); rw [← hw2] at A2; have p2 := hid (SS.out _ A2.out); clear hw2))
  clear p0 p1 p2 c0 c1
  go_wp2
  go_ret
  exact ⟨rfl, A2.out.into (w0 := w) (by simp)⟩
theorem mayO {w : World} {b : Nat} {m : Ms} (hT : Tab w) (h : MsAt w b m) (hk : m.k ≠ 14) (hc : chkA m.ok m.onm.size m.otx.size m.on m.om = 0) : Calls Tryd.prog 81 #[.pointer (some ⟨b, 0, none⟩), .int .i32 79] w fun e w' => e = .returned (.bool true) ∧ Below w.heap.size w w' := by
  have c0 : w.cell? ⟨b, 0, none⟩ = some (.int .i64 m.k) := h 0 _ rfl
  have c1 : w.cell? ⟨b, 10, none⟩ = some (.int .i64 m.ok) := h 10 _ rfl
  have c2 : w.cell? ⟨b, 11, none⟩ = some (.string m.onm) := h 11 _ rfl
  have c3 : w.cell? ⟨b, 12, none⟩ = some (.string m.otx) := h 12 _ rfl
  have c4 : w.cell? ⟨b, 13, none⟩ = some (.int .i64 m.on) := h 13 _ rfl
  have c5 : w.cell? ⟨b, 14, none⟩ = some (.int .i64 m.om) := h 14 _ rfl
  have A0 := hid (All.came w)
  have SS : Hid (∀ W, All [inC w] W → W.cell? ⟨b, 0, none⟩ = some (.int .i64 m.k) ∧ W.cell? ⟨b, 10, none⟩ = some (.int .i64 m.ok) ∧ W.cell? ⟨b, 11, none⟩ = some (.string m.onm) ∧ W.cell? ⟨b, 12, none⟩ = some (.string m.otx) ∧ W.cell? ⟨b, 13, none⟩ = some (.int .i64 m.on) ∧ W.cell? ⟨b, 14, none⟩ = some (.int .i64 m.om)) := hid (fun W hW => by
    have hm := h.under (hW.into (w0 := w) (by simp))
    exact ⟨hm 0 _ rfl, hm 10 _ rfl, hm 11 _ rfl, hm 12 _ rfl, hm 13 _ rfl, hm 14 _ rfl⟩)
  have C : Hid (∀ W, All [inC w] W → Calls Tryd.prog 23 #[opV m.ok m.onm m.otx m.on m.om] W fun e w' => e = .returned (.int .i64 0) ∧ All [inC w] w') := hid (fun W hW => by
    refine (check_any (hT.below (hW.into (w0 := w) (by simp))) m.ok m.onm m.otx m.on m.om).mono ?_
    rintro e w' ⟨rfl, hb⟩
    rw [hc]
    exact ⟨rfl, hW.later hb⟩)
  have p0 := hid (SS.out _ A0.out)
  have k1 : (m.k != 14) = true := by simpa using hk
  clear h hT hc
  go_enter Tryd.func81, Tryd.ntmps81
  go_wp2_with fail
  refine (C.out _ A0.out).mono ?_
  rintro e w1 ⟨rfl, A1⟩
  have A1 := hid A1
  have p1 := hid (SS.out _ A1.out)
  clear p0 c0 c1 c2 c3 c4 c5
  obtain ⟨c0, c1, c2, c3, c4, c5⟩ := p1.out
  go_wp2
  go_ret
  exact ⟨rfl, A1.out.into (w0 := w) (by simp)⟩
end Go.Proofs.YteloaggebkbeeaaDoor

import Derived.Test.YtdhkdniddjnigaaGreatDoorMail3
import Derived.Deep.RegionHeld3
import Derived.Deep.DeepCutAuto
import Derived.Deep.QuietTactic
import Derived.BigQuiet
namespace Go.Proofs.YtdhkdniddjnigaaGreatDoor
open Go.RowKit
set_option linter.unusedVariables false

def lstK (k : Int) : Int := if k = 4 then 1 else 0
theorem least_any {w : World} (k : Int) : Calls Tryz.prog 168 #[.int .i64 k] w fun e w' => e = .returned (.int .i64 (lstK k)) ∧ w' = w := by
  by_cases h : k = 4
  · subst h
    go_enter Tryz.func168, Tryz.ntmps168
    go_wp2
    go_ret
    exact ⟨by simp [lstK], rfl⟩
  · have e1 : (k == 4) = false := by simpa using h
    go_enter Tryz.func168, Tryz.ntmps168
    go_wp2
    go_ret
    exact ⟨by simp [lstK, h], rfl⟩
def inR (n a b : Int) : Bool := decide (a ≤ n ∧ n ≤ b)
theorem within_b {w : World} (n a b : Int) : Calls Tryz.prog 124 #[.int .i64 n, .int .i64 a, .int .i64 b] w fun e w' => e = .returned (.bool (inR n a b)) ∧ w' = w := within_any n a b
theorem mayV {w : World} {b : Nat} {m : Ms} (h : MsAt w b m) : Calls Tryz.prog 126 #[.pointer (some ⟨b, 0, none⟩), .int .i32 86] w fun e w' => e = .returned (.bool (inR m.v 0 1099511627776)) ∧ w' = w := by
  have c : w.cell? ⟨b, 3, none⟩ = some (.int .i64 m.v) := h 3 _ rfl
  clear h
  go_enter Tryz.func126, Tryz.ntmps126
  go_wp2_with fail
  refine (within_b _ _ _).mono ?_
  rintro e w' ⟨rfl, rfl⟩
  go_wp2
  go_ret
  exact ⟨rfl, rfl⟩
theorem mayC {w : World} {b : Nat} {m : Ms} (h : MsAt w b m) : Calls Tryz.prog 126 #[.pointer (some ⟨b, 0, none⟩), .int .i32 67] w fun e w' => e = .returned (.bool (inR m.c 0 1099511627776)) ∧ w' = w := by
  have c : w.cell? ⟨b, 5, none⟩ = some (.int .i64 m.c) := h 5 _ rfl
  clear h
  go_enter Tryz.func126, Tryz.ntmps126
  go_wp2_with fail
  refine (within_b _ _ _).mono ?_
  rintro e w' ⟨rfl, rfl⟩
  go_wp2
  go_ret
  exact ⟨rfl, rfl⟩
theorem mayL {w : World} {b : Nat} {m : Ms} (h : MsAt w b m) : Calls Tryz.prog 126 #[.pointer (some ⟨b, 0, none⟩), .int .i32 76] w fun e w' => e = .returned (.bool (inR m.l 1 1099511627776)) ∧ w' = w := by
  have c : w.cell? ⟨b, 7, none⟩ = some (.int .i64 m.l) := h 7 _ rfl
  clear h
  go_enter Tryz.func126, Tryz.ntmps126
  go_wp2_with fail
  refine (within_b _ _ _).mono ?_
  rintro e w' ⟨rfl, rfl⟩
  go_wp2
  go_ret
  exact ⟨rfl, rfl⟩
theorem mayQ {w : World} {b : Nat} {m : Ms} (h : MsAt w b m) : Calls Tryz.prog 126 #[.pointer (some ⟨b, 0, none⟩), .int .i32 81] w fun e w' => e = .returned (.bool (inR m.q 1 1099511627776)) ∧ w' = w := by
  have c : w.cell? ⟨b, 8, none⟩ = some (.int .i64 m.q) := h 8 _ rfl
  clear h
  go_enter Tryz.func126, Tryz.ntmps126
  go_wp2_with fail
  refine (within_b _ _ _).mono ?_
  rintro e w' ⟨rfl, rfl⟩
  go_wp2
  go_ret
  exact ⟨rfl, rfl⟩
theorem mayN {w : World} {b : Nat} {m : Ms} (h : MsAt w b m) : Calls Tryz.prog 126 #[.pointer (some ⟨b, 0, none⟩), .int .i32 78] w fun e w' => e = .returned (.bool (inR m.o 0 m.v)) ∧ Below w.heap.size w w' := by
  have c0 : w.cell? ⟨b, 6, none⟩ = some (.int .i64 m.o) := h 6 _ rfl
  have c1 : w.cell? ⟨b, 3, none⟩ = some (.int .i64 m.v) := h 3 _ rfl
  have A0 := hid (All.came w)
  have SS : Hid (∀ W, All [inC w] W → W.cell? ⟨b, 6, none⟩ = some (.int .i64 m.o) ∧ W.cell? ⟨b, 3, none⟩ = some (.int .i64 m.v)) := hid (fun W hW => by
    have hm := h.under (hW.into (w0 := w) (by simp))
    exact ⟨hm 6 _ rfl, hm 3 _ rfl⟩)
  have p0 := hid (SS.out _ A0.out)
  clear h
  go_enter Tryz.func126, Tryz.ntmps126
  go_wp2_with fail
  go_region_held3 (fun W => W.cell? ⟨b, 6, none⟩ = some (.int .i64 m.o) ∧ W.cell? ⟨b, 3, none⟩ = some (.int .i64 m.v)) (first | exact p0.out | exact p1.out)
    ((go_at_call 124; refine (within_b _ _ _).mono ?_; rintro e w1 ⟨rfl, hw1⟩; have A1 := hid (A0.out.drew); rw [← hw1] at A1; have p1 := hid (SS.out _ A1.out); clear hw1))
  clear p0 p1 c0 c1
  go_wp2
  go_ret
  exact ⟨rfl, A1.out.into (w0 := w) (by simp)⟩
theorem mayK {w : World} {b : Nat} {m : Ms} (h : MsAt w b m) : Calls Tryz.prog 126 #[.pointer (some ⟨b, 0, none⟩), .int .i32 75] w fun e w' => e = .returned (.bool (inR m.n (lstK m.k) 1099511627776)) ∧ Below w.heap.size w w' := by
  have c0 : w.cell? ⟨b, 4, none⟩ = some (.int .i64 m.n) := h 4 _ rfl
  have c1 : w.cell? ⟨b, 0, none⟩ = some (.int .i64 m.k) := h 0 _ rfl
  have A0 := hid (All.came w)
  have SS : Hid (∀ W, All [inC w] W → W.cell? ⟨b, 4, none⟩ = some (.int .i64 m.n) ∧ W.cell? ⟨b, 0, none⟩ = some (.int .i64 m.k)) := hid (fun W hW => by
    have hm := h.under (hW.into (w0 := w) (by simp))
    exact ⟨hm 4 _ rfl, hm 0 _ rfl⟩)
  have p0 := hid (SS.out _ A0.out)
  clear h
  go_enter Tryz.func126, Tryz.ntmps126
  go_wp2_with fail
  go_region_held3 (fun W => W.cell? ⟨b, 4, none⟩ = some (.int .i64 m.n) ∧ W.cell? ⟨b, 0, none⟩ = some (.int .i64 m.k)) (first | exact p0.out | exact p1.out | exact p2.out)
    (first
      | (go_at_call 168; refine (least_any _).mono ?_; rintro e w1 ⟨rfl, hw1⟩; have A1 := hid (A0.out.drew); rw [← hw1] at A1; have p1 := hid (SS.out _ A1.out); clear hw1)
      | (go_at_call 124; refine (within_b _ _ _).mono ?_; rintro e w2 ⟨rfl, hw2⟩; have A2 := hid (A1.out); rw [← hw2] at A2; have p2 := hid (SS.out _ A2.out); clear hw2))
  clear p0 p1 p2 c0 c1
  go_wp2
  go_ret
  exact ⟨rfl, A2.out.into (w0 := w) (by simp)⟩
end Go.Proofs.YtdhkdniddjnigaaGreatDoor

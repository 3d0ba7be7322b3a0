import Derived.Test.YtmpbdncgilahkaaTalS
import Derived.Test.YtmpbdncgilahkaaClrI
namespace Go.Proofs.Ytmpbdncgilahkaa
open Go.RowKit
set_option linter.unusedVariables false

set_option maxRecDepth 1000000 in
theorem CloneS {w : World} {P : Nat} {n : Int} {ws : List (Option ByteArray)} (hT : TalS w P n ws) : Calls Try.prog 23 #[.pointer (some ⟨P, 0, none⟩)] w fun e w' => ∃ Q, e = .returned (.pointer (some ⟨Q, 0, none⟩)) ∧ Below w.heap.size w w' ∧ w.heap.size ≤ Q ∧ TalS w' Q n ws := by
  have hlen := hT.len
  obtain ⟨x0, x1, x2, x3, x4, x5, x6, rfl⟩ : ∃ x0 x1 x2 x3 x4 x5 x6, ws = [x0, x1, x2, x3, x4, x5, x6] := by
    match ws, hlen with
    | [x0, x1, x2, x3, x4, x5, x6], _ => exact ⟨_, _, _, _, _, _, _, rfl⟩
  have c0 := hT.c0
  obtain ⟨y0, b0, F0⟩ : ∃ y b, Hid (x0.getD ⟨#[]⟩ = y ∧ x0.isSome = b) := ⟨_, _, hid ⟨rfl, rfl⟩⟩
  have p0 : w.cell? ⟨P, 1, none⟩ = some (encS y0) := (hT.cw (k := 0) rfl).trans (by rw [← F0.out.1]; cases x0 <;> rfl)
  have q0 : w.cell? ⟨P, 2, none⟩ = some (.bool b0) := (hT.cb (k := 0) rfl).trans (by rw [← F0.out.2])
  obtain ⟨y1, b1, F1⟩ : ∃ y b, Hid (x1.getD ⟨#[]⟩ = y ∧ x1.isSome = b) := ⟨_, _, hid ⟨rfl, rfl⟩⟩
  have p1 : w.cell? ⟨P, 3, none⟩ = some (encS y1) := (hT.cw (k := 1) rfl).trans (by rw [← F1.out.1]; cases x1 <;> rfl)
  have q1 : w.cell? ⟨P, 4, none⟩ = some (.bool b1) := (hT.cb (k := 1) rfl).trans (by rw [← F1.out.2])
  obtain ⟨y2, b2, F2⟩ : ∃ y b, Hid (x2.getD ⟨#[]⟩ = y ∧ x2.isSome = b) := ⟨_, _, hid ⟨rfl, rfl⟩⟩
  have p2 : w.cell? ⟨P, 5, none⟩ = some (encS y2) := (hT.cw (k := 2) rfl).trans (by rw [← F2.out.1]; cases x2 <;> rfl)
  have q2 : w.cell? ⟨P, 6, none⟩ = some (.bool b2) := (hT.cb (k := 2) rfl).trans (by rw [← F2.out.2])
  obtain ⟨y3, b3, F3⟩ : ∃ y b, Hid (x3.getD ⟨#[]⟩ = y ∧ x3.isSome = b) := ⟨_, _, hid ⟨rfl, rfl⟩⟩
  have p3 : w.cell? ⟨P, 7, none⟩ = some (encS y3) := (hT.cw (k := 3) rfl).trans (by rw [← F3.out.1]; cases x3 <;> rfl)
  have q3 : w.cell? ⟨P, 8, none⟩ = some (.bool b3) := (hT.cb (k := 3) rfl).trans (by rw [← F3.out.2])
  obtain ⟨y4, b4, F4⟩ : ∃ y b, Hid (x4.getD ⟨#[]⟩ = y ∧ x4.isSome = b) := ⟨_, _, hid ⟨rfl, rfl⟩⟩
  have p4 : w.cell? ⟨P, 9, none⟩ = some (encS y4) := (hT.cw (k := 4) rfl).trans (by rw [← F4.out.1]; cases x4 <;> rfl)
  have q4 : w.cell? ⟨P, 10, none⟩ = some (.bool b4) := (hT.cb (k := 4) rfl).trans (by rw [← F4.out.2])
  obtain ⟨y5, b5, F5⟩ : ∃ y b, Hid (x5.getD ⟨#[]⟩ = y ∧ x5.isSome = b) := ⟨_, _, hid ⟨rfl, rfl⟩⟩
  have p5 : w.cell? ⟨P, 11, none⟩ = some (encS y5) := (hT.cw (k := 5) rfl).trans (by rw [← F5.out.1]; cases x5 <;> rfl)
  have q5 : w.cell? ⟨P, 12, none⟩ = some (.bool b5) := (hT.cb (k := 5) rfl).trans (by rw [← F5.out.2])
  obtain ⟨y6, b6, F6⟩ : ∃ y b, Hid (x6.getD ⟨#[]⟩ = y ∧ x6.isSome = b) := ⟨_, _, hid ⟨rfl, rfl⟩⟩
  have p6 : w.cell? ⟨P, 13, none⟩ = some (encS y6) := (hT.cw (k := 6) rfl).trans (by rw [← F6.out.1]; cases x6 <;> rfl)
  have q6 : w.cell? ⟨P, 14, none⟩ = some (.bool b6) := (hT.cb (k := 6) rfl).trans (by rw [← F6.out.2])
  have T := hid hT
  clear hT hlen
  go_enter Try.func23, Try.ntmps23
  go_wp2
  go_ret
  refine ⟨_, rfl, ba _ _, Nat.le_refl _, ?_, rfl⟩
  rw [heap_alloc_new]
  rw [← F0.out.1, ← F0.out.2, ← F1.out.1, ← F1.out.2, ← F2.out.1, ← F2.out.2, ← F3.out.1, ← F3.out.2, ← F4.out.1, ← F4.out.2, ← F5.out.1, ← F5.out.2, ← F6.out.1, ← F6.out.2]
  cases x0 <;> cases x1 <;> cases x2 <;> cases x3 <;> cases x4 <;> cases x5 <;> cases x6 <;> rfl

set_option maxRecDepth 1000000 in
theorem ClearS {w : World} {P : Nat} {n : Int} {ws : List (Option ByteArray)} (hT : TalS w P n ws) : Calls Try.prog 51 #[.pointer (some ⟨P, 0, none⟩)] w fun e w' => e = .returned (.tuple #[]) ∧ Fr [P] w w' ∧ TalS w' P n [none, none, none, none, none, none, none] := by
  have f := fun j => hT.free j
  have hlen := hT.len
  obtain ⟨x0, x1, x2, x3, x4, x5, x6, rfl⟩ : ∃ x0 x1 x2 x3 x4 x5 x6, ws = [x0, x1, x2, x3, x4, x5, x6] := by
    match ws, hlen with
    | [x0, x1, x2, x3, x4, x5, x6], _ => exact ⟨_, _, _, _, _, _, _, rfl⟩
  obtain ⟨y0, b0, F0⟩ : ∃ y b, Hid (x0.getD ⟨#[]⟩ = y ∧ x0.isSome = b) := ⟨_, _, hid ⟨rfl, rfl⟩⟩
  have p0 : w.cell? ⟨P, 1, none⟩ = some (encS y0) := (hT.cw (k := 0) rfl).trans (by rw [← F0.out.1]; cases x0 <;> rfl)
  have q0 : w.cell? ⟨P, 2, none⟩ = some (.bool b0) := (hT.cb (k := 0) rfl).trans (by rw [← F0.out.2])
  obtain ⟨y1, b1, F1⟩ : ∃ y b, Hid (x1.getD ⟨#[]⟩ = y ∧ x1.isSome = b) := ⟨_, _, hid ⟨rfl, rfl⟩⟩
  have p1 : w.cell? ⟨P, 3, none⟩ = some (encS y1) := (hT.cw (k := 1) rfl).trans (by rw [← F1.out.1]; cases x1 <;> rfl)
  have q1 : w.cell? ⟨P, 4, none⟩ = some (.bool b1) := (hT.cb (k := 1) rfl).trans (by rw [← F1.out.2])
  obtain ⟨y2, b2, F2⟩ : ∃ y b, Hid (x2.getD ⟨#[]⟩ = y ∧ x2.isSome = b) := ⟨_, _, hid ⟨rfl, rfl⟩⟩
  have p2 : w.cell? ⟨P, 5, none⟩ = some (encS y2) := (hT.cw (k := 2) rfl).trans (by rw [← F2.out.1]; cases x2 <;> rfl)
  have q2 : w.cell? ⟨P, 6, none⟩ = some (.bool b2) := (hT.cb (k := 2) rfl).trans (by rw [← F2.out.2])
  obtain ⟨y3, b3, F3⟩ : ∃ y b, Hid (x3.getD ⟨#[]⟩ = y ∧ x3.isSome = b) := ⟨_, _, hid ⟨rfl, rfl⟩⟩
  have p3 : w.cell? ⟨P, 7, none⟩ = some (encS y3) := (hT.cw (k := 3) rfl).trans (by rw [← F3.out.1]; cases x3 <;> rfl)
  have q3 : w.cell? ⟨P, 8, none⟩ = some (.bool b3) := (hT.cb (k := 3) rfl).trans (by rw [← F3.out.2])
  obtain ⟨y4, b4, F4⟩ : ∃ y b, Hid (x4.getD ⟨#[]⟩ = y ∧ x4.isSome = b) := ⟨_, _, hid ⟨rfl, rfl⟩⟩
  have p4 : w.cell? ⟨P, 9, none⟩ = some (encS y4) := (hT.cw (k := 4) rfl).trans (by rw [← F4.out.1]; cases x4 <;> rfl)
  have q4 : w.cell? ⟨P, 10, none⟩ = some (.bool b4) := (hT.cb (k := 4) rfl).trans (by rw [← F4.out.2])
  obtain ⟨y5, b5, F5⟩ : ∃ y b, Hid (x5.getD ⟨#[]⟩ = y ∧ x5.isSome = b) := ⟨_, _, hid ⟨rfl, rfl⟩⟩
  have p5 : w.cell? ⟨P, 11, none⟩ = some (encS y5) := (hT.cw (k := 5) rfl).trans (by rw [← F5.out.1]; cases x5 <;> rfl)
  have q5 : w.cell? ⟨P, 12, none⟩ = some (.bool b5) := (hT.cb (k := 5) rfl).trans (by rw [← F5.out.2])
  obtain ⟨y6, b6, F6⟩ : ∃ y b, Hid (x6.getD ⟨#[]⟩ = y ∧ x6.isSome = b) := ⟨_, _, hid ⟨rfl, rfl⟩⟩
  have p6 : w.cell? ⟨P, 13, none⟩ = some (encS y6) := (hT.cw (k := 6) rfl).trans (by rw [← F6.out.1]; cases x6 <;> rfl)
  have q6 : w.cell? ⟨P, 14, none⟩ = some (.bool b6) := (hT.cb (k := 6) rfl).trans (by rw [← F6.out.2])
  have T := hid hT
  clear hT hlen
  go_enter Try.func51, Try.ntmps51
  go_wp2
  go_end0
  refine ⟨rfl, ?_, (((((((T.out.wipe (k := 0) (by omega)).wipe (k := 1) (by omega)).wipe (k := 2) (by omega)).wipe (k := 3) (by omega)).wipe (k := 4) (by omega)).wipe (k := 5) (by omega)).wipe (k := 6) (by omega))⟩
  repeat refine fr_set ?_ (by simp) _ _
  exact fr_refl _ _
end Go.Proofs.Ytmpbdncgilahkaa

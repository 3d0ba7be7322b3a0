import Derived.Test.YtdhkdniddjnigaaGreatDoorPx15
namespace Go.Proofs.YtdhkdniddjnigaaGreatDoor
open Go.RowKit
set_option linter.unusedVariables false

set_option maxRecDepth 1000000 in
/-- Ask of an op that may not be. -/
theorem ask_bad {P : Nat} {x : Px} {b m n1 n2 : Int} {cs : List Comp} {w w0 : World} (h : All (pxL P x b m n1 n2 ++ cs) w) (hT : Tab w0) (hin : inC w0 ∈ cs) (k : Int) (nm tx : ByteArray) (a d : Int) (who : Int) (hc : chkA k nm.size tx.size a d ≠ 0) : Calls Tryz.prog 193 #[.pointer (some ⟨P, 0, none⟩), .int .i64 who, opV k nm tx a d] w fun e w' => e = .returned (.tuple #[.slice none 0 0, .int .i64 (chkA k nm.size tx.size a d)]) ∧ All (pxL P x b m n1 n2 ++ cs) w' := by
  have A1 := hid (h.alloc (.cells #[.int .i64 k, .string nm, .string tx, .int .i64 a, .int .i64 d] 42))
  have C := hid (check_any (hT.below (A1.out.into (List.mem_append_right _ hin))) k nm tx a d)
  generalize chkA k nm.size tx.size a d = E at hc C ⊢
  have e1 : (E != 0) = true := by simpa using hc
  clear h hT hin hc
  go_enter Tryz.func193, Tryz.ntmps193
  go_wp2_with fail
  refine C.out.mono ?_
  rintro e w1 ⟨rfl, BB⟩
  have A2 := hid (A1.out.later BB)
  clear BB C A1
  go_wp2
  go_ret2
  exact ⟨rfl, A2.out⟩
set_option maxHeartbeats 1600000 in
set_option maxRecDepth 1000000 in
/-- Ask of what is no query. -/
theorem ask_noq {P : Nat} {x : Px} {b m n1 n2 : Int} {cs : List Comp} {w w0 : World} (h : All (pxL P x b m n1 n2 ++ cs) w) (hT : Tab w0) (hin : inC w0 ∈ cs) (k : Int) (nm tx : ByteArray) (a d : Int) (who : Int) (hc : chkA k nm.size tx.size a d = 0) (hk : ¬ (6 ≤ k ∧ k ≤ 8)) : Calls Tryz.prog 193 #[.pointer (some ⟨P, 0, none⟩), .int .i64 who, opV k nm tx a d] w fun e w' => e = .returned (.tuple #[.slice none 0 0, .int .i64 56]) ∧ All (pxL P x b m n1 n2 ++ cs) w' := by
  obtain ⟨H, hH⟩ : ∃ H, Hid (H = w.heap.size) := ⟨_, hid rfl⟩
  have A1 := hid (h.addBlk [.int .i64 k, .string nm, .string tx, .int .i64 a, .int .i64 d] 42)
  rw [← hH.out] at A1
  have A1 := hid (A1.out.perm (List.perm_middle (l₁ := pxL P x b m n1 n2)).symm)
  have C : Hid (Calls Tryz.prog 169 #[opV k nm tx a d] (w.alloc (.cells #[.int .i64 k, .string nm, .string tx, .int .i64 a, .int .i64 d] 42)) fun e w' => e = .returned (.int .i64 0) ∧ Below (w.alloc (.cells #[.int .i64 k, .string nm, .string tx, .int .i64 a, .int .i64 d] 42)).heap.size (w.alloc (.cells #[.int .i64 k, .string nm, .string tx, .int .i64 a, .int .i64 d] 42)) w') := hid (by
    have := check_any (hT.below (A1.out.into (List.mem_append_right _ (List.mem_cons_of_mem _ hin)))) k nm tx a d
    rw [hc] at this
    exact this)
  have C31 : Hid (∀ W : World, Calls Tryz.prog 170 #[.int .i64 k] W fun e w' => e = .returned (.bool false) ∧ w' = W) := hid (fun W => by have := query_any (w := W) k; rw [decide_eq_false hk] at this; exact this)
  clear h hT hin hc hk
  go_enter Tryz.func193, Tryz.ntmps193
  go_wp2_with fail
  refine C.out.mono ?_
  rintro e w1 ⟨rfl, BB⟩
  have A2 : Hid (All (pxL P x b m n1 n2 ++ (blkC H [.int .i64 k, .string nm, .string tx, .int .i64 a, .int .i64 d] 42 :: cs)) w1) := hid (A1.out.later BB)
  simp only [← hH.out]
  clear BB C A1
  have SF : Hid (∀ W, All (pxL P x b m n1 n2 ++ (blkC H [.int .i64 k, .string nm, .string tx, .int .i64 a, .int .i64 d] 42 :: cs)) W → W.cell? ⟨H, 0, none⟩ = some (.int .i64 k) ∧ W.cell? ⟨H, 1, none⟩ = some (.string nm) ∧ W.cell? ⟨H, 2, none⟩ = some (.string tx) ∧ W.cell? ⟨H, 3, none⟩ = some (.int .i64 a) ∧ W.cell? ⟨H, 4, none⟩ = some (.int .i64 d)) := hid (fun W hW => opCells (hW.blk (by simp)))
  have k0 : w1.cell? ⟨H, 0, none⟩ = some (.int .i64 k) := (SF.out _ A2.out).1
  go_wp2_with (go_at_call 170; refine (C31.out _).mono ?_; rintro e w' ⟨rfl, rfl⟩)
  go_ret2
  exact ⟨rfl, (A2.out.perm (List.perm_middle (l₁ := pxL P x b m n1 n2))).tail⟩
set_option maxHeartbeats 1600000 in
set_option maxRecDepth 1000000 in
/-- Ask while a question waits. -/
theorem ask_no {P : Nat} {x : Px} {b m n1 n2 : Int} {cs : List Comp} {w w0 : World} (h : All (pxL P x b m n1 n2 ++ cs) w) (hT : Tab w0) (hin : inC w0 ∈ cs) (k : Int) (nm tx : ByteArray) (a d : Int) (who : Int) (hc : chkA k nm.size tx.size a d = 0) (hk : 6 ≤ k ∧ k ≤ 8) (hw0 : 0 ≤ who) (hw1 : who < x.n) {E : Int} (hE : E ≠ 0) (hC : ∀ W cs', All (pxL P x b m n1 n2 ++ cs') W → Calls Tryz.prog 212 #[.pointer (some ⟨P, 13, none⟩), opV k nm tx a d] W fun e w' => e = .returned (.int .i64 E) ∧ All (pxL P x b m n1 n2 ++ cs') w') : Calls Tryz.prog 193 #[.pointer (some ⟨P, 0, none⟩), .int .i64 who, opV k nm tx a d] w fun e w' => e = .returned (.tuple #[.slice none 0 0, .int .i64 E]) ∧ All (pxL P x b m n1 n2 ++ cs) w' := by
  obtain ⟨H, hH⟩ : ∃ H, Hid (H = w.heap.size) := ⟨_, hid rfl⟩
  have A1 := hid (h.addBlk [.int .i64 k, .string nm, .string tx, .int .i64 a, .int .i64 d] 42)
  rw [← hH.out] at A1
  have A1 := hid (A1.out.perm (List.perm_middle (l₁ := pxL P x b m n1 n2)).symm)
  have C : Hid (Calls Tryz.prog 169 #[opV k nm tx a d] (w.alloc (.cells #[.int .i64 k, .string nm, .string tx, .int .i64 a, .int .i64 d] 42)) fun e w' => e = .returned (.int .i64 0) ∧ Below (w.alloc (.cells #[.int .i64 k, .string nm, .string tx, .int .i64 a, .int .i64 d] 42)).heap.size (w.alloc (.cells #[.int .i64 k, .string nm, .string tx, .int .i64 a, .int .i64 d] 42)) w') := hid (by
    have := check_any (hT.below (A1.out.into (List.mem_append_right _ (List.mem_cons_of_mem _ hin)))) k nm tx a d
    rw [hc] at this
    exact this)
  have C31 : Hid (∀ W : World, Calls Tryz.prog 170 #[.int .i64 k] W fun e w' => e = .returned (.bool true) ∧ w' = W) := hid (fun W => by have := query_any (w := W) k; rw [decide_eq_true hk] at this; exact this)
  have HC := hid hC
  have e3 : (E != 0) = true := by simpa using hE
  have e1 : decide (who < 0) = false := by simpa using hw0
  have e2 : decide (x.n ≤ who) = false := by simpa using hw1
  clear h hT hin hc hk hC hE hw0 hw1
  go_enter Tryz.func193, Tryz.ntmps193
  go_wp2_with fail
  refine C.out.mono ?_
  rintro e w1 ⟨rfl, BB⟩
  have A2 : Hid (All (pxL P x b m n1 n2 ++ (blkC H [.int .i64 k, .string nm, .string tx, .int .i64 a, .int .i64 d] 42 :: cs)) w1) := hid (A1.out.later BB)
  simp only [← hH.out]
  clear BB C A1
  have SF : Hid (∀ W, All (pxL P x b m n1 n2 ++ (blkC H [.int .i64 k, .string nm, .string tx, .int .i64 a, .int .i64 d] 42 :: cs)) W → W.cell? ⟨H, 0, none⟩ = some (.int .i64 k) ∧ W.cell? ⟨H, 1, none⟩ = some (.string nm) ∧ W.cell? ⟨H, 2, none⟩ = some (.string tx) ∧ W.cell? ⟨H, 3, none⟩ = some (.int .i64 a) ∧ W.cell? ⟨H, 4, none⟩ = some (.int .i64 d)) := hid (fun W hW => opCells (hW.blk (by simp)))
  have k0 : w1.cell? ⟨H, 0, none⟩ = some (.int .i64 k) := (SF.out _ A2.out).1
  have c0 : w1.cell? ⟨P, 0, none⟩ = some (.int .i64 x.n) := by rw [cell_at A2.out.px]; rfl
  go_upto_region 8 with (go_at_call 170; refine (C31.out _).mono ?_; rintro e w' ⟨rfl, rfl⟩)
  have A3 := hid A2.out.drew
  have p0 := hid (SF.out _ A3.out)
  clear k0 c0
  go_region_held3 (fun W => W.cell? ⟨H, 0, none⟩ = some (.int .i64 k) ∧ W.cell? ⟨H, 1, none⟩ = some (.string nm) ∧ W.cell? ⟨H, 2, none⟩ = some (.string tx) ∧ W.cell? ⟨H, 3, none⟩ = some (.int .i64 a) ∧ W.cell? ⟨H, 4, none⟩ = some (.int .i64 d)) (first | with_reducible exact p0.out | with_reducible exact p1.out)
    (first
      | (go_at_call 212; refine (HC.out _ _ A3.out).mono ?_; rintro e w2 ⟨rfl, hw2⟩; have A4 := hid hw2; have p1 := hid (SF.out _ A4.out); clear hw2))
  clear p0 p1 A3 A2
  go_wp2
  go_ret2
  exact ⟨rfl, (A4.out.perm (List.perm_middle (l₁ := pxL P x b m n1 n2))).tail⟩
end Go.Proofs.YtdhkdniddjnigaaGreatDoor

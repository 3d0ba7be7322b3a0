import Derived.Test.YthoppemjfdnibaaGreatDoorMail12
namespace Go.Proofs.YthoppemjfdnibaaGreatDoor
open Go.RowKit
set_option linter.unusedVariables false

set_option maxRecDepth 1000000 in
theorem sameOp69 {w : World} (k : Int) (nm tx : ByteArray) (n m : Int) : Calls Tryz.prog 69 #[opV k nm tx n m, opV k nm tx n m] w fun e w' => e = .returned (.bool true) ∧ Below w.heap.size w w' := by
  have h1 : (nm.toList == nm.toList) = true := by simp
  have h2 : (tx.toList == tx.toList) = true := by simp
  go_enter Tryz.func69, Tryz.ntmps69
  go_wp2
  go_ret
  exact ⟨rfl, b2 (ba _ _) (ba _ _)⟩
set_option maxRecDepth 1000000 in
theorem nil70 {w : World} : Calls Tryz.prog 70 #[.slice none 0 0, .slice none 0 0] w fun e w' => e = .returned (.bool true) ∧ w' = w := by
  go_enter Tryz.func70, Tryz.ntmps70
  go_wp2
  go_loopw [5] (fun iv wr => iv = .int .i64 0 ∧ wr = w) (fun iv _ => 0)
  case atStart => exact ⟨rfl, rfl⟩
  case round =>
    obtain ⟨rfl, rfl⟩ := hrel
    go_wp2
    go_ret
    exact ⟨rfl, rfl⟩
set_option maxRecDepth 1000000 in
theorem nil71 {w : World} : Calls Tryz.prog 71 #[.slice none 0 0, .slice none 0 0] w fun e w' => e = .returned (.bool true) ∧ w' = w := by
  go_enter Tryz.func71, Tryz.ntmps71
  go_wp2
  go_loopw [5] (fun iv wr => iv = .int .i64 0 ∧ wr = w) (fun iv _ => 0)
  case atStart => exact ⟨rfl, rfl⟩
  case round =>
    obtain ⟨rfl, rfl⟩ := hrel
    go_wp2
    go_ret
    exact ⟨rfl, rfl⟩
set_option maxRecDepth 1000000 in
theorem nil72 {w : World} : Calls Tryz.prog 72 #[.slice none 0 0, .slice none 0 0] w fun e w' => e = .returned (.bool true) ∧ w' = w := by
  go_enter Tryz.func72, Tryz.ntmps72
  go_wp2
  go_loopw [5] (fun iv wr => iv = .int .i64 0 ∧ wr = w) (fun iv _ => 0)
  case atStart => exact ⟨rfl, rfl⟩
  case round =>
    obtain ⟨rfl, rfl⟩ := hrel
    go_wp2
    go_ret
    exact ⟨rfl, rfl⟩

set_option maxHeartbeats 6400000 in
set_option maxRecDepth 1000000 in
theorem sameMsg_pok {w : World} : Calls Tryz.prog 27 #[.agg pokM.cells.toArray, .agg pokM.cells.toArray] w fun e w' => e = .returned (.bool true) ∧ Below w.heap.size w w' := by
  obtain ⟨b1, hb1⟩ : ∃ b, Hid (b = w.heap.size) := ⟨_, hid rfl⟩
  obtain ⟨b2', hb2⟩ : ∃ b, Hid (b = w.heap.size + 1) := ⟨_, hid rfl⟩
  have W2 : Hid (MsAt ((w.alloc (.cells pokM.cells.toArray 34)).alloc (.cells pokM.cells.toArray 34)) b1 pokM ∧ MsAt ((w.alloc (.cells pokM.cells.toArray 34)).alloc (.cells pokM.cells.toArray 34)) b2' pokM ∧ Below w.heap.size w ((w.alloc (.cells pokM.cells.toArray 34)).alloc (.cells pokM.cells.toArray 34))) := hid (by
    refine ⟨by rw [hb1.out]; exact (MsAt.new w pokM).under (ba _ _), ?_, b2 (ba _ _) (ba _ _)⟩
    have := MsAt.new (w.alloc (.cells pokM.cells.toArray 34)) pokM
    simp only [World.size_alloc] at this
    rw [hb2.out]
    exact this)
  generalize hPC : pokM.cells.toArray = PC at W2 ⊢
  go_enter Tryz.func27, Tryz.ntmps27
  go_upto_region 1 with fail
  simp only [← hb1.out]
  have e2 : b1 + 1 = b2' := by rw [hb1.out, hb2.out]
  simp only [e2]
  clear e2
  generalize (w.alloc (.cells PC 34)).alloc (.cells PC 34) = w2 at W2 ⊢
  clear hPC
  have c0 : w2.cell? ⟨b1, 0, none⟩ = some (.int .i64 5) := W2.out.1 0 _ rfl
  have c1 : w2.cell? ⟨b1, 1, none⟩ = some (.int .i64 1) := W2.out.1 1 _ rfl
  have c2 : w2.cell? ⟨b1, 2, none⟩ = some (.int .i64 0) := W2.out.1 2 _ rfl
  have c3 : w2.cell? ⟨b1, 3, none⟩ = some (.int .i64 300) := W2.out.1 3 _ rfl
  have c4 : w2.cell? ⟨b1, 4, none⟩ = some (.int .i64 5) := W2.out.1 4 _ rfl
  have c5 : w2.cell? ⟨b1, 5, none⟩ = some (.int .i64 0) := W2.out.1 5 _ rfl
  have c6 : w2.cell? ⟨b1, 6, none⟩ = some (.int .i64 0) := W2.out.1 6 _ rfl
  have c7 : w2.cell? ⟨b1, 7, none⟩ = some (.int .i64 0) := W2.out.1 7 _ rfl
  have c8 : w2.cell? ⟨b1, 8, none⟩ = some (.int .i64 0) := W2.out.1 8 _ rfl
  have c9 : w2.cell? ⟨b1, 9, none⟩ = some (.bool false) := W2.out.1 9 _ rfl
  have c10 : w2.cell? ⟨b1, 10, none⟩ = some (.int .i64 0) := W2.out.1 10 _ rfl
  have c11 : w2.cell? ⟨b1, 11, none⟩ = some (.string ⟨#[]⟩) := W2.out.1 11 _ rfl
  have c12 : w2.cell? ⟨b1, 12, none⟩ = some (.string ⟨#[]⟩) := W2.out.1 12 _ rfl
  have c13 : w2.cell? ⟨b1, 13, none⟩ = some (.int .i64 0) := W2.out.1 13 _ rfl
  have c14 : w2.cell? ⟨b1, 14, none⟩ = some (.int .i64 0) := W2.out.1 14 _ rfl
  have c15 : w2.cell? ⟨b1, 15, none⟩ = some (.int .i64 0) := W2.out.1 15 _ rfl
  have c16 : w2.cell? ⟨b1, 16, none⟩ = some (.int .i64 0) := W2.out.1 16 _ rfl
  have c17 : w2.cell? ⟨b1, 17, none⟩ = some (.slice none 0 0) := W2.out.1 17 _ rfl
  have c18 : w2.cell? ⟨b1, 18, none⟩ = some (.slice none 0 0) := W2.out.1 18 _ rfl
  have c19 : w2.cell? ⟨b1, 19, none⟩ = some (.int .i64 0) := W2.out.1 19 _ rfl
  have c20 : w2.cell? ⟨b1, 20, none⟩ = some (.int .i64 0) := W2.out.1 20 _ rfl
  have c21 : w2.cell? ⟨b1, 21, none⟩ = some (.slice none 0 0) := W2.out.1 21 _ rfl
  have c22 : w2.cell? ⟨b1, 22, none⟩ = some (.slice none 0 0) := W2.out.1 22 _ rfl
  have d0 : w2.cell? ⟨b2', 0, none⟩ = some (.int .i64 5) := W2.out.2.1 0 _ rfl
  have d1 : w2.cell? ⟨b2', 1, none⟩ = some (.int .i64 1) := W2.out.2.1 1 _ rfl
  have d2 : w2.cell? ⟨b2', 2, none⟩ = some (.int .i64 0) := W2.out.2.1 2 _ rfl
  have d3 : w2.cell? ⟨b2', 3, none⟩ = some (.int .i64 300) := W2.out.2.1 3 _ rfl
  have d4 : w2.cell? ⟨b2', 4, none⟩ = some (.int .i64 5) := W2.out.2.1 4 _ rfl
  have d5 : w2.cell? ⟨b2', 5, none⟩ = some (.int .i64 0) := W2.out.2.1 5 _ rfl
  have d6 : w2.cell? ⟨b2', 6, none⟩ = some (.int .i64 0) := W2.out.2.1 6 _ rfl
  have d7 : w2.cell? ⟨b2', 7, none⟩ = some (.int .i64 0) := W2.out.2.1 7 _ rfl
  have d8 : w2.cell? ⟨b2', 8, none⟩ = some (.int .i64 0) := W2.out.2.1 8 _ rfl
  have d9 : w2.cell? ⟨b2', 9, none⟩ = some (.bool false) := W2.out.2.1 9 _ rfl
  have d10 : w2.cell? ⟨b2', 10, none⟩ = some (.int .i64 0) := W2.out.2.1 10 _ rfl
  have d11 : w2.cell? ⟨b2', 11, none⟩ = some (.string ⟨#[]⟩) := W2.out.2.1 11 _ rfl
  have d12 : w2.cell? ⟨b2', 12, none⟩ = some (.string ⟨#[]⟩) := W2.out.2.1 12 _ rfl
  have d13 : w2.cell? ⟨b2', 13, none⟩ = some (.int .i64 0) := W2.out.2.1 13 _ rfl
  have d14 : w2.cell? ⟨b2', 14, none⟩ = some (.int .i64 0) := W2.out.2.1 14 _ rfl
  have d15 : w2.cell? ⟨b2', 15, none⟩ = some (.int .i64 0) := W2.out.2.1 15 _ rfl
  have d16 : w2.cell? ⟨b2', 16, none⟩ = some (.int .i64 0) := W2.out.2.1 16 _ rfl
  have d17 : w2.cell? ⟨b2', 17, none⟩ = some (.slice none 0 0) := W2.out.2.1 17 _ rfl
  have d18 : w2.cell? ⟨b2', 18, none⟩ = some (.slice none 0 0) := W2.out.2.1 18 _ rfl
  have d19 : w2.cell? ⟨b2', 19, none⟩ = some (.int .i64 0) := W2.out.2.1 19 _ rfl
  have d20 : w2.cell? ⟨b2', 20, none⟩ = some (.int .i64 0) := W2.out.2.1 20 _ rfl
  have d21 : w2.cell? ⟨b2', 21, none⟩ = some (.slice none 0 0) := W2.out.2.1 21 _ rfl
  have d22 : w2.cell? ⟨b2', 22, none⟩ = some (.slice none 0 0) := W2.out.2.1 22 _ rfl
  go_wp2_with fail
  refine (sameOp69 0 ⟨#[]⟩ ⟨#[]⟩ 0 0).mono ?_
  rintro e w3 ⟨rfl, B3⟩
  have W3 : Hid (MsAt w3 b1 pokM ∧ MsAt w3 b2' pokM ∧ Below w.heap.size w w3) := hid ⟨W2.out.1.under B3, W2.out.2.1.under B3, b2 W2.out.2.2 B3⟩
  clear c0 c1 c2 c3 c4 c5 c6 c7 c8 c9 c10 c11 c12 c13 c14 c15 c16 c17 c18 c19 c20 c21 c22 d0 d1 d2 d3 d4 d5 d6 d7 d8 d9 d10 d11 d12 d13 d14 d15 d16 d17 d18 d19 d20 d21 d22 B3 W2
  have c0 : w3.cell? ⟨b1, 0, none⟩ = some (.int .i64 5) := W3.out.1 0 _ rfl
  have c1 : w3.cell? ⟨b1, 1, none⟩ = some (.int .i64 1) := W3.out.1 1 _ rfl
  have c2 : w3.cell? ⟨b1, 2, none⟩ = some (.int .i64 0) := W3.out.1 2 _ rfl
  have c3 : w3.cell? ⟨b1, 3, none⟩ = some (.int .i64 300) := W3.out.1 3 _ rfl
  have c4 : w3.cell? ⟨b1, 4, none⟩ = some (.int .i64 5) := W3.out.1 4 _ rfl
  have c5 : w3.cell? ⟨b1, 5, none⟩ = some (.int .i64 0) := W3.out.1 5 _ rfl
  have c6 : w3.cell? ⟨b1, 6, none⟩ = some (.int .i64 0) := W3.out.1 6 _ rfl
  have c7 : w3.cell? ⟨b1, 7, none⟩ = some (.int .i64 0) := W3.out.1 7 _ rfl
  have c8 : w3.cell? ⟨b1, 8, none⟩ = some (.int .i64 0) := W3.out.1 8 _ rfl
  have c9 : w3.cell? ⟨b1, 9, none⟩ = some (.bool false) := W3.out.1 9 _ rfl
  have c10 : w3.cell? ⟨b1, 10, none⟩ = some (.int .i64 0) := W3.out.1 10 _ rfl
  have c11 : w3.cell? ⟨b1, 11, none⟩ = some (.string ⟨#[]⟩) := W3.out.1 11 _ rfl
  have c12 : w3.cell? ⟨b1, 12, none⟩ = some (.string ⟨#[]⟩) := W3.out.1 12 _ rfl
  have c13 : w3.cell? ⟨b1, 13, none⟩ = some (.int .i64 0) := W3.out.1 13 _ rfl
  have c14 : w3.cell? ⟨b1, 14, none⟩ = some (.int .i64 0) := W3.out.1 14 _ rfl
  have c15 : w3.cell? ⟨b1, 15, none⟩ = some (.int .i64 0) := W3.out.1 15 _ rfl
  have c16 : w3.cell? ⟨b1, 16, none⟩ = some (.int .i64 0) := W3.out.1 16 _ rfl
  have c17 : w3.cell? ⟨b1, 17, none⟩ = some (.slice none 0 0) := W3.out.1 17 _ rfl
  have c18 : w3.cell? ⟨b1, 18, none⟩ = some (.slice none 0 0) := W3.out.1 18 _ rfl
  have c19 : w3.cell? ⟨b1, 19, none⟩ = some (.int .i64 0) := W3.out.1 19 _ rfl
  have c20 : w3.cell? ⟨b1, 20, none⟩ = some (.int .i64 0) := W3.out.1 20 _ rfl
  have c21 : w3.cell? ⟨b1, 21, none⟩ = some (.slice none 0 0) := W3.out.1 21 _ rfl
  have c22 : w3.cell? ⟨b1, 22, none⟩ = some (.slice none 0 0) := W3.out.1 22 _ rfl
  have d0 : w3.cell? ⟨b2', 0, none⟩ = some (.int .i64 5) := W3.out.2.1 0 _ rfl
  have d1 : w3.cell? ⟨b2', 1, none⟩ = some (.int .i64 1) := W3.out.2.1 1 _ rfl
  have d2 : w3.cell? ⟨b2', 2, none⟩ = some (.int .i64 0) := W3.out.2.1 2 _ rfl
  have d3 : w3.cell? ⟨b2', 3, none⟩ = some (.int .i64 300) := W3.out.2.1 3 _ rfl
  have d4 : w3.cell? ⟨b2', 4, none⟩ = some (.int .i64 5) := W3.out.2.1 4 _ rfl
  have d5 : w3.cell? ⟨b2', 5, none⟩ = some (.int .i64 0) := W3.out.2.1 5 _ rfl
  have d6 : w3.cell? ⟨b2', 6, none⟩ = some (.int .i64 0) := W3.out.2.1 6 _ rfl
  have d7 : w3.cell? ⟨b2', 7, none⟩ = some (.int .i64 0) := W3.out.2.1 7 _ rfl
  have d8 : w3.cell? ⟨b2', 8, none⟩ = some (.int .i64 0) := W3.out.2.1 8 _ rfl
  have d9 : w3.cell? ⟨b2', 9, none⟩ = some (.bool false) := W3.out.2.1 9 _ rfl
  have d10 : w3.cell? ⟨b2', 10, none⟩ = some (.int .i64 0) := W3.out.2.1 10 _ rfl
  have d11 : w3.cell? ⟨b2', 11, none⟩ = some (.string ⟨#[]⟩) := W3.out.2.1 11 _ rfl
  have d12 : w3.cell? ⟨b2', 12, none⟩ = some (.string ⟨#[]⟩) := W3.out.2.1 12 _ rfl
  have d13 : w3.cell? ⟨b2', 13, none⟩ = some (.int .i64 0) := W3.out.2.1 13 _ rfl
  have d14 : w3.cell? ⟨b2', 14, none⟩ = some (.int .i64 0) := W3.out.2.1 14 _ rfl
  have d15 : w3.cell? ⟨b2', 15, none⟩ = some (.int .i64 0) := W3.out.2.1 15 _ rfl
  have d16 : w3.cell? ⟨b2', 16, none⟩ = some (.int .i64 0) := W3.out.2.1 16 _ rfl
  have d17 : w3.cell? ⟨b2', 17, none⟩ = some (.slice none 0 0) := W3.out.2.1 17 _ rfl
  have d18 : w3.cell? ⟨b2', 18, none⟩ = some (.slice none 0 0) := W3.out.2.1 18 _ rfl
  have d19 : w3.cell? ⟨b2', 19, none⟩ = some (.int .i64 0) := W3.out.2.1 19 _ rfl
  have d20 : w3.cell? ⟨b2', 20, none⟩ = some (.int .i64 0) := W3.out.2.1 20 _ rfl
  have d21 : w3.cell? ⟨b2', 21, none⟩ = some (.slice none 0 0) := W3.out.2.1 21 _ rfl
  have d22 : w3.cell? ⟨b2', 22, none⟩ = some (.slice none 0 0) := W3.out.2.1 22 _ rfl
  go_wp2_with (first | (go_at_call 70; refine nil70.mono ?_; rintro e w' ⟨rfl, rfl⟩) | (go_at_call 71; refine nil71.mono ?_; rintro e w' ⟨rfl, rfl⟩) | (go_at_call 72; refine nil72.mono ?_; rintro e w' ⟨rfl, rfl⟩))
  go_ret
  exact ⟨rfl, W3.out.2.2⟩
end Go.Proofs.YthoppemjfdnibaaGreatDoor

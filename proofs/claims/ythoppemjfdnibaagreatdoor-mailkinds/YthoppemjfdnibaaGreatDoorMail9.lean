import Derived.Test.YthoppemjfdnibaaGreatDoorMail8
namespace Go.Proofs.YthoppemjfdnibaaGreatDoor
open Go.RowKit Go.Lib
set_option linter.unusedVariables false

set_option maxRecDepth 100000 in
theorem f34_req {w : World} {b : Nat} (hT : Tab w) (hF : Fld w) (hM : MsAt w b reqM) : Calls Tryz.prog 34 #[.pointer (some ⟨b, 0, none⟩)] w fun e w' => e = .returned (.int .i64 0) ∧ Below w.heap.size w w' := by
  refine fields_ok (k := 1) hF hM (by omega) rfl ?_ ?_
  · intro r hr hin W hb
    have hr : r = 81 ∨ r = 79 := by simpa [fldN] using hr
    rcases hr with rfl | rfl
    · refine (mayQ (hM.under hb)).mono ?_
      rintro e w' ⟨he, hb2⟩
      exact ⟨he.trans (by first | rfl | exact congrArg _ (by decide)), by rw [hb2]; exact Below.refl _ _⟩
    · refine (mayO (hT.below hb) (hM.under hb) (by decide) (by decide)).mono ?_
      rintro e w' ⟨he, hb2⟩
      exact ⟨he.trans (by first | rfl | exact congrArg _ (by decide)), hb2⟩
  · intro r hr hin W hb
    have hr : r = 86 ∨ r = 75 ∨ r = 67 ∨ r = 78 ∨ r = 76 ∨ r = 81 ∨ r = 72 ∨ r = 79 ∨ r = 82 ∨ r = 69 ∨ r = 71 := by simpa [allF] using hr
    rcases hr with rfl | rfl | rfl | rfl | rfl | rfl | rfl | rfl | rfl | rfl | rfl
    · refine (zeroV (hM.under hb)).mono ?_
      rintro e w' ⟨he, rfl⟩
      exact ⟨he, Below.refl _ _⟩
    · refine (zeroK (hM.under hb)).mono ?_
      rintro e w' ⟨he, rfl⟩
      exact ⟨he, Below.refl _ _⟩
    · refine (zeroC (hM.under hb)).mono ?_
      rintro e w' ⟨he, rfl⟩
      exact ⟨he, Below.refl _ _⟩
    · refine (zeroN (hM.under hb)).mono ?_
      rintro e w' ⟨he, rfl⟩
      exact ⟨he, Below.refl _ _⟩
    · refine (zeroL (hM.under hb)).mono ?_
      rintro e w' ⟨he, rfl⟩
      exact ⟨he, Below.refl _ _⟩
    · exact absurd hin (by decide)
    · refine (zeroH (hM.under hb)).mono ?_
      rintro e w' ⟨he, rfl⟩
      exact ⟨he, Below.refl _ _⟩
    · exact absurd hin (by decide)
    · refine (zeroR0 (hM.under hb) rfl rfl rfl).mono ?_
      rintro e w' ⟨he, rfl⟩
      exact ⟨he, Below.refl _ _⟩
    · refine (zeroE (hM.under hb)).mono ?_
      rintro e w' ⟨he, rfl⟩
      exact ⟨he, Below.refl _ _⟩
    · refine (zeroG0 (hM.under hb) rfl rfl rfl rfl).mono ?_
      rintro e w' ⟨he, rfl⟩
      exact ⟨he, Below.refl _ _⟩
set_option maxRecDepth 100000 in
theorem f34_pok {w : World} {b : Nat} (hT : Tab w) (hF : Fld w) (hM : MsAt w b pokM) : Calls Tryz.prog 34 #[.pointer (some ⟨b, 0, none⟩)] w fun e w' => e = .returned (.int .i64 0) ∧ Below w.heap.size w w' := by
  refine fields_ok (k := 5) hF hM (by omega) rfl ?_ ?_
  · intro r hr hin W hb
    have hr : r = 86 ∨ r = 75 := by simpa [fldN] using hr
    rcases hr with rfl | rfl
    · refine (mayV (hM.under hb)).mono ?_
      rintro e w' ⟨he, hb2⟩
      exact ⟨he.trans (by first | rfl | exact congrArg _ (by decide)), by rw [hb2]; exact Below.refl _ _⟩
    · refine (mayK (hM.under hb)).mono ?_
      rintro e w' ⟨he, hb2⟩
      exact ⟨he.trans (by first | rfl | exact congrArg _ (by decide)), hb2⟩
  · intro r hr hin W hb
    have hr : r = 86 ∨ r = 75 ∨ r = 67 ∨ r = 78 ∨ r = 76 ∨ r = 81 ∨ r = 72 ∨ r = 79 ∨ r = 82 ∨ r = 69 ∨ r = 71 := by simpa [allF] using hr
    rcases hr with rfl | rfl | rfl | rfl | rfl | rfl | rfl | rfl | rfl | rfl | rfl
    · exact absurd hin (by decide)
    · exact absurd hin (by decide)
    · refine (zeroC (hM.under hb)).mono ?_
      rintro e w' ⟨he, rfl⟩
      exact ⟨he, Below.refl _ _⟩
    · refine (zeroN (hM.under hb)).mono ?_
      rintro e w' ⟨he, rfl⟩
      exact ⟨he, Below.refl _ _⟩
    · refine (zeroL (hM.under hb)).mono ?_
      rintro e w' ⟨he, rfl⟩
      exact ⟨he, Below.refl _ _⟩
    · refine (zeroQ (hM.under hb)).mono ?_
      rintro e w' ⟨he, rfl⟩
      exact ⟨he, Below.refl _ _⟩
    · refine (zeroH (hM.under hb)).mono ?_
      rintro e w' ⟨he, rfl⟩
      exact ⟨he, Below.refl _ _⟩
    · refine (zeroO0 (hM.under hb) rfl rfl rfl rfl rfl).mono ?_
      rintro e w' ⟨he, rfl⟩
      exact ⟨he, Below.refl _ _⟩
    · refine (zeroR0 (hM.under hb) rfl rfl rfl).mono ?_
      rintro e w' ⟨he, rfl⟩
      exact ⟨he, Below.refl _ _⟩
    · refine (zeroE (hM.under hb)).mono ?_
      rintro e w' ⟨he, rfl⟩
      exact ⟨he, Below.refl _ _⟩
    · refine (zeroG0 (hM.under hb) rfl rfl rfl rfl).mono ?_
      rintro e w' ⟨he, rfl⟩
      exact ⟨he, Below.refl _ _⟩
theorem check_req {w : World} (hT : Tab w) (hF : Fld w) : Calls Tryz.prog 15 #[.int .i64 3, .agg reqM.cells.toArray] w fun e w' => e = .returned (.int .i64 0) ∧ Below w.heap.size w w' :=
  check_ok reqM true false (by decide) (by decide) (by decide) (by decide) (by decide) (by decide) (fun W b hb hM => f34_req (hT.below hb) (hF.below hb) hM)
theorem check_pok {w : World} (hT : Tab w) (hF : Fld w) : Calls Tryz.prog 15 #[.int .i64 3, .agg pokM.cells.toArray] w fun e w' => e = .returned (.int .i64 0) ∧ Below w.heap.size w w' :=
  check_ok pokM false false (by decide) (by decide) (by decide) (by decide) (by decide) (by decide) (fun W b hb hM => f34_pok (hT.below hb) (hF.below hb) hM)

theorem range34 {W : World} {b : Nat} {m : Ms} (h : MsAt W b m) : W.rangeAt b 0 m.cells := fun j u hu => by rw [Nat.zero_add]; exact h j u hu
theorem info34 (m : Ms) : (Tryz.prog.info? 34).map (·.size) = some m.cells.length := by kernel_rfl

set_option maxHeartbeats 3200000 in
set_option maxRecDepth 1000000 in
/-- The first example. -/
theorem encode_req {cs : List Comp} {w : World} (h : All cs w) (hT : ∀ W, All cs W → Tab W) (hF : ∀ W, All cs W → Fld W) : Calls Tryz.prog 18 #[.int .i64 3, .agg reqM.cells.toArray] w fun e w' => ∃ so sc, e = .returned (.tuple #[.slice so 7 sc, .int .i64 0]) ∧ All (ownC 5 (.slice so 7 sc) (cellsB [1, 7, 2, 1, 1, 1, 113]) :: cs) w' := by
  obtain ⟨mb, hmb⟩ : ∃ mb, Hid (mb = w.heap.size) := ⟨_, hid rfl⟩
  have A := hid (h.addBlk reqM.cells 34)
  rw [← hmb.out] at A
  have MM : Hid (∀ W, All (blkC mb reqM.cells 34 :: cs) W → MsAt W mb reqM ∧ Tab W ∧ Fld W) := hid (fun W hW => ⟨fun j u hu => by rw [cell_at (hW.1.2.1 : W.heap[mb]? = some (.cells reqM.cells.toArray 34 (0, 0)))]; simpa using hu, hT W hW.tail, hF W hW.tail⟩)
  have R0 := hid (range34 (MM.out _ A.out).1)
  have C1 := hid (check_req (MM.out _ A.out).2.1 (MM.out _ A.out).2.2)
  have I34 := hid (info34 reqM)
  generalize hRC : reqM.cells = RC at *
  clear h hT hF
  go_enter Tryz.func18, Tryz.ntmps18
  go_wp2_with (refine wpList_load_mid rfl 34 _ rfl mb 0 (by rw [hmb.out]; rfl) RC _ R0.out Tryz.underlying34 rfl I34.out ?_)
  refine C1.out.mono ?_
  rintro e w1 ⟨rfl, B1⟩
  have A1 := hid (A.out.later B1)
  clear C1 R0 I34 B1 A
  rw [← hmb.out]
  go_wp2_with fail
  refine (newW A1.out).mono ?_
  rintro e w2 ⟨bw, rfl, A2⟩
  obtain ⟨Y, hY⟩ : ∃ Y, Hid (Y = w2.heap.size) := ⟨_, hid rfl⟩
  have A3 := hid ((A2.addBlk [.pointer (some ⟨bw, 0, none⟩)] 66).swap)
  rw [← hY.out] at A3
  clear A2 A1
  go_wp2_with fail
  refine (message_req A3.out (fun W hW => (MM.out W hW.tail).2.1) (fun W hW => (MM.out W hW.tail).1) (fun W hW => (MM.out W hW.tail).2.2)).mono ?_
  rintro e w3 ⟨rfl, v3, A4⟩
  have A4 : Hid (All (wrC bw v3 (some [1, 7, 2, 1, 1, 1, 113]) :: blkC Y [.pointer (some ⟨bw, 0, none⟩)] 66 :: blkC mb RC 34 :: cs) w3) := hid A4
  have y0 : w3.cell? ⟨Y, 0, none⟩ = some (.pointer (some ⟨bw, 0, none⟩)) := by rw [cell_at A4.out.tail.1.2.1]; rfl
  rw [← hY.out]
  clear A3
  go_wp2_with fail
  refine (doneW A4.out (by decide)).mono ?_
  rintro e w4 ⟨so, sc, rfl, A5⟩
  have A5 := hid A5
  clear A4 y0
  go_wp2
  go_ret2
  exact ⟨so, sc, rfl, A5.out.swap.tail.swap.tail.swap.tail⟩
end Go.Proofs.YthoppemjfdnibaaGreatDoor

import Derived.Test.YthoppemjfdnibaaGreatDoorJ20
namespace Go.Proofs.YthoppemjfdnibaaGreatDoor
open Go.RowKit Go.Lib
set_option linter.unusedVariables false

theorem fieldP0 (a b : FuncId) (W : World) : (Instr.field 103 (fnP a b) 0).run Tryz.prog W = .ok (.func (.func a) #[] #[]) W := by kernel_rfl
theorem fieldP1 (a b : FuncId) (W : World) : (Instr.field 103 (fnP a b) 1).run Tryz.prog W = .ok (.func (.func b) #[] #[]) W := by kernel_rfl
theorem numC {bw : Nat} {cs : List Comp} {l l' : List UInt8} (n : Nat) (hn : n < 1000) (hl : l.length ≤ 1000) (he : addS (some l) (enc 9 n) = some l') (v : Value) (W : World) (h : All (wrC bw v (some l) :: cs) W) : Calls Tryz.prog 82 #[.pointer (some ⟨bw, 0, none⟩), .int .i64 (n : Int)] W fun e w' => e = .returned (.tuple #[]) ∧ ∃ v', All (wrC bw v' (some l') :: cs) w' := by
  have := natW h n (by omega) (by simp [lenS]; omega)
  rw [he] at this
  exact this

attribute [local go_sem] fieldP0 fieldP1
set_option maxHeartbeats 6400000 in
set_option maxRecDepth 1000000 in
theorem message_req {bw mb : Nat} {v : Value} {cs : List Comp} {w : World} (h : All (wrC bw v (some []) :: cs) w) (ht : ∀ w', All cs w' → Tab w') (hM : ∀ W, All cs W → MsAt W mb reqM) (hF : ∀ W, All cs W → Fld W) :
    Calls Tryz.prog 42 #[.agg #[.pointer (some ⟨bw, 0, none⟩)], .pointer (some ⟨mb, 0, none⟩)] w fun e w' => e = .returned (.tuple #[]) ∧ ∃ v', All (wrC bw v' (stR 2) :: cs) w' := by
  obtain ⟨X, hX⟩ : ∃ X, Hid (X = w.heap.size) := ⟨_, hid rfl⟩
  have A0 := (h.addBlk [.pointer (some ⟨bw, 0, none⟩)] 66).swap
  rw [← hX.out] at A0
  have A := hid A0
  have SS : Hid (∀ W v st, All (wrC bw v st :: blkC X [.pointer (some ⟨bw, 0, none⟩)] 66 :: cs) W → W.cell? ⟨X, 0, none⟩ = some (.pointer (some ⟨bw, 0, none⟩)) ∧ W.cell? ⟨mb, 0, none⟩ = some (.int .i64 1) ∧ W.cell? ⟨mb, 1, none⟩ = some (.int .i64 7) ∧ W.cell? ⟨mb, 2, none⟩ = some (.int .i64 2)) := hid (fun W v st hW => ⟨by rw [cell_at hW.tail.1.2.1]; rfl, hM W hW.tail.tail 0 _ rfl, hM W hW.tail.tail 1 _ rfl, hM W hW.tail.tail 2 _ rfl⟩)
  have C1 := hid (numC (bw := bw) (cs := blkC X [.pointer (some ⟨bw, 0, none⟩)] 66 :: cs) (l := []) (l' := [1]) 1 (by omega) (by simp) (by rfl))
  have C2 := hid (numC (bw := bw) (cs := blkC X [.pointer (some ⟨bw, 0, none⟩)] 66 :: cs) (l := [1]) (l' := [1, 7]) 7 (by omega) (by simp) (by rfl))
  have C3 := hid (numC (bw := bw) (cs := blkC X [.pointer (some ⟨bw, 0, none⟩)] 66 :: cs) (l := [1, 7]) (l' := [1, 7, 2]) 2 (by omega) (by simp) (by rfl))
  have HT := hid ht
  have HM := hid hM
  have HF := hid hF
  have p0 := hid (SS.out _ _ _ A.out.drew)
  clear h ht hM hF A0
  go_enter Tryz.func42, Tryz.ntmps42
  go_wp2_with fail
  rw [← hX.out]
  go_region_held3 (fun W => W.cell? ⟨X, 0, none⟩ = some (.pointer (some ⟨bw, 0, none⟩)) ∧ W.cell? ⟨mb, 0, none⟩ = some (.int .i64 1)) (first | exact ⟨p0.out.1, p0.out.2.1⟩ | exact ⟨z.out.1, z.out.2.1⟩)
    (first | (go_at_call 82; refine (C1.out _ _ A.out.drew).mono ?_; rintro e w2 ⟨rfl, v2, A2⟩; have A2 := hid A2; have z := hid (SS.out _ _ _ A2.out)))
  clear p0 z A
  have p0 := hid (SS.out _ _ _ A2.out.drew)
  go_wp2_with fail
  go_region_held3 (fun W => W.cell? ⟨X, 0, none⟩ = some (.pointer (some ⟨bw, 0, none⟩)) ∧ W.cell? ⟨mb, 1, none⟩ = some (.int .i64 7)) (first | exact ⟨p0.out.1, p0.out.2.2.1⟩ | exact ⟨z.out.1, z.out.2.2.1⟩)
    (first | (go_at_call 82; refine (C2.out _ _ A2.out.drew).mono ?_; rintro e w3 ⟨rfl, v3, A3⟩; have A3 := hid A3; have z := hid (SS.out _ _ _ A3.out)))
  clear p0 z A2
  have p0 := hid (SS.out _ _ _ A3.out.drew)
  go_wp2_with fail
  go_region_held3 (fun W => W.cell? ⟨X, 0, none⟩ = some (.pointer (some ⟨bw, 0, none⟩)) ∧ W.cell? ⟨mb, 2, none⟩ = some (.int .i64 2)) (first | exact ⟨p0.out.1, p0.out.2.2.2⟩ | exact ⟨z.out.1, z.out.2.2.2⟩)
    (first | (go_at_call 82; refine (C3.out _ _ A3.out.drew).mono ?_; rintro e w4 ⟨rfl, v4, A4⟩; have A4 := hid A4; have z := hid (SS.out _ _ _ A4.out)))
  clear p0 A3 C1 C2 C3
  have c0 := z.out.2.1
  have c1 := (HF.out _ A4.out.tail.tail).cell 1 (by omega)
  obtain ⟨IT, hIT⟩ : ∃ IT, Hid (IT = w4.heap.size) := ⟨_, hid rfl⟩
  have A5 : Hid (All (wrC bw v4 (stR 0) :: itC IT (fldS 1) 0 :: blkC X [.pointer (some ⟨bw, 0, none⟩)] 66 :: cs) (w4.iter (fldS 1) 0)) := hid (by
    have := A4.out.addIter (fldS 1)
    rw [← hIT.out] at this
    exact this.swap)
  have SI : Hid (∀ W v st p, All (wrC bw v st :: itC IT (fldS 1) p :: blkC X [.pointer (some ⟨bw, 0, none⟩)] 66 :: cs) W → W.cell? ⟨X, 0, none⟩ = some (.pointer (some ⟨bw, 0, none⟩))) := hid (fun W v st p hW => by rw [cell_at hW.tail.tail.1.2.1]; rfl)
  go_wp2_with fail
  rw [← hIT.out]
  clear c0 c1 z A4
  generalize w4.iter (fldS 1) 0 = w5 at A5 ⊢
  go_loopw [34] (fun u wr => ∃ (p : Nat) (v : Value), p ≤ 2 ∧ Hid (All (wrC bw v (stR p) :: itC IT (fldS 1) p :: blkC X [.pointer (some ⟨bw, 0, none⟩)] 66 :: cs) wr)) (fun u wr => 2 - wr.iterPos IT)
  case atStart => exact ⟨0, v4, by omega, A5⟩
  case round =>
    clear A5
    obtain ⟨p, v6, hp, HP⟩ := hrel
    have hi : wr.heap[IT]? = some (.stringIter (fldS 1) p) := HP.out.tail.1.2.1
    have hm0 : Hid (wr.iterPos IT = p) := hid (iterPos_of hi)
    by_cases hlt : p < 2
    · obtain rfl | rfl : p = 0 ∨ p = 1 := by omega
      · have hn := run_next_ascii_at (P := Tryz.prog) wr IT (fldS 1) 0 0 hi (by decide) (by decide)
        have hl : Hid (((fldS 1)[0]'(by decide)).toNat = 81) := hid (by decide)
        have A6 := hid ((HP.out.swap.stepIter 1).swap)
        have q0 := hid (SI.out _ _ _ _ A6.out.drew)
        clear HP hi
        go_wp2_with fail
        generalize wr.iterAt IT (fldS 1) 1 = w6 at A6 q0 ⊢
        clear hn
        simp only [hl.out]
        go_region_held3 (fun W => W.cell? ⟨X, 0, none⟩ = some (.pointer (some ⟨bw, 0, none⟩))) (first | exact q0.out | exact z.out | exact z2.out)
          (first
            | (go_at_call 83; refine (field81 _).mono ?_; rintro e w7 ⟨rfl, B7⟩; have A7 := hid (A6.out.drew.later B7); have z := hid (SI.out _ _ _ _ A7.out))
            | (go_at_call 124; refine (w124 (m := reqM) A7.out (fun W hW => HM.out W hW.tail.tail) (by decide) (by decide)).mono ?_; rintro e w8 ⟨rfl, v8, A8⟩; have A8 := hid A8; have z2 := hid (SI.out _ _ _ _ A8.out)))
        have A8 : Hid (All (wrC bw v8 (stR 1) :: itC IT (fldS 1) 1 :: blkC X [.pointer (some ⟨bw, 0, none⟩)] 66 :: cs) w8) := A8
        clear z z2 q0 A7 A6
        go_wp2
        go_roundw
        case rel => exact ⟨1, v8, by omega, A8⟩
        case measure => rw [hm0.out, iterPos_of (s := fldS 1) (p := 1) A8.out.tail.1.2.1]; omega
      · have hn := run_next_ascii_at (P := Tryz.prog) wr IT (fldS 1) 1 0 hi (by decide) (by decide)
        have hl : Hid (((fldS 1)[1]'(by decide)).toNat = 79) := hid (by decide)
        have A6 := hid ((HP.out.swap.stepIter 2).swap)
        have q0 := hid (SI.out _ _ _ _ A6.out.drew)
        clear HP hi
        go_wp2_with fail
        generalize wr.iterAt IT (fldS 1) 2 = w6 at A6 q0 ⊢
        clear hn
        simp only [hl.out]
        go_region_held3 (fun W => W.cell? ⟨X, 0, none⟩ = some (.pointer (some ⟨bw, 0, none⟩))) (first | exact q0.out | exact z.out | exact z2.out)
          (first
            | (go_at_call 83; refine (field79 _).mono ?_; rintro e w7 ⟨rfl, B7⟩; have A7 := hid (A6.out.drew.later B7); have z := hid (SI.out _ _ _ _ A7.out))
            | (go_at_call 128; refine (w128 (m := reqM) A7.out (fun W hW => HT.out W hW.tail.tail) (fun W hW => HM.out W hW.tail.tail) rfl (by decide) (by decide) (by decide)).mono ?_; rintro e w8 ⟨rfl, v8, A8⟩; have A8 := hid A8; have z2 := hid (SI.out _ _ _ _ A8.out)))
        have A8 : Hid (All (wrC bw v8 (stR 2) :: itC IT (fldS 1) 2 :: blkC X [.pointer (some ⟨bw, 0, none⟩)] 66 :: cs) w8) := A8
        clear z z2 q0 A7 A6
        go_wp2
        go_roundw
        case rel => exact ⟨2, v8, by omega, A8⟩
        case measure => rw [hm0.out, iterPos_of (s := fldS 1) (p := 2) A8.out.tail.1.2.1]; omega
    · obtain rfl : p = 2 := by omega
      have hn := run_next_end_at (P := Tryz.prog) wr IT (fldS 1) 2 0 hi (by decide)
      go_wp2
      go_end0
      exact ⟨rfl, v6, HP.out.swap.tail.swap.tail⟩
end Go.Proofs.YthoppemjfdnibaaGreatDoor

namespace Go.Proofs.YthoppemjfdnibaaGreatDoor
open Go.RowKit Go.Lib
set_option linter.unusedVariables false

set_option maxRecDepth 100000 in
theorem f34_req {w : World} {b : Nat} (hT : Tab w) (hF : Fld w) (hM : MsAt w b reqM) : Calls Tryz.prog 34 #[.pointer (some ⟨b, 0, none⟩)] w fun e w' => e = .returned (.int .i64 0) ∧ Below w.heap.size w w' := by
  refine fields_ok (k := 1) hF hM (by omega) rfl ?_ ?_
  · intro r hr hin W hb
    have hr : r = 81 ∨ r = 79 := by simpa [fldN] using hr
    rcases hr with rfl | rfl
    · refine (mayQ (hM.under hb)).mono ?_
      rintro e w' ⟨he, hb2⟩
      exact ⟨he.trans (by first | rfl | exact congrArg _ (by decide)), by rw [hb2]; exact Below.refl _ _⟩
    · refine (mayO (hT.below hb) (hM.under hb) (by decide) (by decide)).mono ?_
      rintro e w' ⟨he, hb2⟩
      exact ⟨he.trans (by first | rfl | exact congrArg _ (by decide)), hb2⟩
  · intro r hr hin W hb
    have hr : r = 86 ∨ r = 75 ∨ r = 67 ∨ r = 78 ∨ r = 76 ∨ r = 81 ∨ r = 72 ∨ r = 79 ∨ r = 82 ∨ r = 69 ∨ r = 71 := by simpa [allF] using hr
    rcases hr with rfl | rfl | rfl | rfl | rfl | rfl | rfl | rfl | rfl | rfl | rfl
    · refine (zeroV (hM.under hb)).mono ?_
      rintro e w' ⟨he, rfl⟩
      exact ⟨he, Below.refl _ _⟩
    · refine (zeroK (hM.under hb)).mono ?_
      rintro e w' ⟨he, rfl⟩
      exact ⟨he, Below.refl _ _⟩
    · refine (zeroC (hM.under hb)).mono ?_
      rintro e w' ⟨he, rfl⟩
      exact ⟨he, Below.refl _ _⟩
    · refine (zeroN (hM.under hb)).mono ?_
      rintro e w' ⟨he, rfl⟩
      exact ⟨he, Below.refl _ _⟩
    · refine (zeroL (hM.under hb)).mono ?_
      rintro e w' ⟨he, rfl⟩
      exact ⟨he, Below.refl _ _⟩
    · exact absurd hin (by decide)
    · refine (zeroH (hM.under hb)).mono ?_
      rintro e w' ⟨he, rfl⟩
      exact ⟨he, Below.refl _ _⟩
    · exact absurd hin (by decide)
    · refine (zeroR0 (hM.under hb) rfl rfl rfl).mono ?_
      rintro e w' ⟨he, rfl⟩
      exact ⟨he, Below.refl _ _⟩
    · refine (zeroE (hM.under hb)).mono ?_
      rintro e w' ⟨he, rfl⟩
      exact ⟨he, Below.refl _ _⟩
    · refine (zeroG0 (hM.under hb) rfl rfl rfl rfl).mono ?_
      rintro e w' ⟨he, rfl⟩
      exact ⟨he, Below.refl _ _⟩
set_option maxRecDepth 100000 in
theorem f34_pok {w : World} {b : Nat} (hT : Tab w) (hF : Fld w) (hM : MsAt w b pokM) : Calls Tryz.prog 34 #[.pointer (some ⟨b, 0, none⟩)] w fun e w' => e = .returned (.int .i64 0) ∧ Below w.heap.size w w' := by
  refine fields_ok (k := 5) hF hM (by omega) rfl ?_ ?_
  · intro r hr hin W hb
    have hr : r = 86 ∨ r = 75 := by simpa [fldN] using hr
    rcases hr with rfl | rfl
    · refine (mayV (hM.under hb)).mono ?_
      rintro e w' ⟨he, hb2⟩
      exact ⟨he.trans (by first | rfl | exact congrArg _ (by decide)), by rw [hb2]; exact Below.refl _ _⟩
    · refine (mayK (hM.under hb)).mono ?_
      rintro e w' ⟨he, hb2⟩
      exact ⟨he.trans (by first | rfl | exact congrArg _ (by decide)), hb2⟩
  · intro r hr hin W hb
    have hr : r = 86 ∨ r = 75 ∨ r = 67 ∨ r = 78 ∨ r = 76 ∨ r = 81 ∨ r = 72 ∨ r = 79 ∨ r = 82 ∨ r = 69 ∨ r = 71 := by simpa [allF] using hr
    rcases hr with rfl | rfl | rfl | rfl | rfl | rfl | rfl | rfl | rfl | rfl | rfl
    · exact absurd hin (by decide)
    · exact absurd hin (by decide)
    · refine (zeroC (hM.under hb)).mono ?_
      rintro e w' ⟨he, rfl⟩
      exact ⟨he, Below.refl _ _⟩
    · refine (zeroN (hM.under hb)).mono ?_
      rintro e w' ⟨he, rfl⟩
      exact ⟨he, Below.refl _ _⟩
    · refine (zeroL (hM.under hb)).mono ?_
      rintro e w' ⟨he, rfl⟩
      exact ⟨he, Below.refl _ _⟩
    · refine (zeroQ (hM.under hb)).mono ?_
      rintro e w' ⟨he, rfl⟩
      exact ⟨he, Below.refl _ _⟩
    · refine (zeroH (hM.under hb)).mono ?_
      rintro e w' ⟨he, rfl⟩
      exact ⟨he, Below.refl _ _⟩
    · refine (zeroO0 (hM.under hb) rfl rfl rfl rfl rfl).mono ?_
      rintro e w' ⟨he, rfl⟩
      exact ⟨he, Below.refl _ _⟩
    · refine (zeroR0 (hM.under hb) rfl rfl rfl).mono ?_
      rintro e w' ⟨he, rfl⟩
      exact ⟨he, Below.refl _ _⟩
    · refine (zeroE (hM.under hb)).mono ?_
      rintro e w' ⟨he, rfl⟩
      exact ⟨he, Below.refl _ _⟩
    · refine (zeroG0 (hM.under hb) rfl rfl rfl rfl).mono ?_
      rintro e w' ⟨he, rfl⟩
      exact ⟨he, Below.refl _ _⟩
theorem check_req {w : World} (hT : Tab w) (hF : Fld w) : Calls Tryz.prog 15 #[.int .i64 3, .agg reqM.cells.toArray] w fun e w' => e = .returned (.int .i64 0) ∧ Below w.heap.size w w' :=
  check_ok reqM true false (by decide) (by decide) (by decide) (by decide) (by decide) (by decide) (fun W b hb hM => f34_req (hT.below hb) (hF.below hb) hM)
theorem check_pok {w : World} (hT : Tab w) (hF : Fld w) : Calls Tryz.prog 15 #[.int .i64 3, .agg pokM.cells.toArray] w fun e w' => e = .returned (.int .i64 0) ∧ Below w.heap.size w w' :=
  check_ok pokM false false (by decide) (by decide) (by decide) (by decide) (by decide) (by decide) (fun W b hb hM => f34_pok (hT.below hb) (hF.below hb) hM)

theorem range34 {W : World} {b : Nat} {m : Ms} (h : MsAt W b m) : W.rangeAt b 0 m.cells := fun j u hu => by rw [Nat.zero_add]; exact h j u hu
theorem info34 (m : Ms) : (Tryz.prog.info? 34).map (·.size) = some m.cells.length := by kernel_rfl

set_option maxHeartbeats 3200000 in
set_option maxRecDepth 1000000 in
/-- The first example. -/
theorem encode_req {cs : List Comp} {w : World} (h : All cs w) (hT : ∀ W, All cs W → Tab W) (hF : ∀ W, All cs W → Fld W) : Calls Tryz.prog 18 #[.int .i64 3, .agg reqM.cells.toArray] w fun e w' => ∃ so sc, e = .returned (.tuple #[.slice so 7 sc, .int .i64 0]) ∧ All (ownC 5 (.slice so 7 sc) (cellsB [1, 7, 2, 1, 1, 1, 113]) :: cs) w' := by
  obtain ⟨mb, hmb⟩ : ∃ mb, Hid (mb = w.heap.size) := ⟨_, hid rfl⟩
  have A := hid (h.addBlk reqM.cells 34)
  rw [← hmb.out] at A
  have MM : Hid (∀ W, All (blkC mb reqM.cells 34 :: cs) W → MsAt W mb reqM ∧ Tab W ∧ Fld W) := hid (fun W hW => ⟨fun j u hu => by rw [cell_at (hW.1.2.1 : W.heap[mb]? = some (.cells reqM.cells.toArray 34 (0, 0)))]; simpa using hu, hT W hW.tail, hF W hW.tail⟩)
  have R0 := hid (range34 (MM.out _ A.out).1)
  have C1 := hid (check_req (MM.out _ A.out).2.1 (MM.out _ A.out).2.2)
  have I34 := hid (info34 reqM)
  generalize hRC : reqM.cells = RC at *
  clear h hT hF
  go_enter Tryz.func18, Tryz.ntmps18
  go_wp2_with (refine wpList_load_mid rfl 34 _ rfl mb 0 (by rw [hmb.out]; rfl) RC _ R0.out Tryz.underlying34 rfl I34.out ?_)
  refine C1.out.mono ?_
  rintro e w1 ⟨rfl, B1⟩
  have A1 := hid (A.out.later B1)
  clear C1 R0 I34 B1 A
  rw [← hmb.out]
  go_wp2_with fail
  refine (newW A1.out).mono ?_
  rintro e w2 ⟨bw, rfl, A2⟩
  obtain ⟨Y, hY⟩ : ∃ Y, Hid (Y = w2.heap.size) := ⟨_, hid rfl⟩
  have A3 := hid ((A2.addBlk [.pointer (some ⟨bw, 0, none⟩)] 66).swap)
  rw [← hY.out] at A3
  clear A2 A1
  go_wp2_with fail
  refine (message_req A3.out (fun W hW => (MM.out W hW.tail).2.1) (fun W hW => (MM.out W hW.tail).1) (fun W hW => (MM.out W hW.tail).2.2)).mono ?_
  rintro e w3 ⟨rfl, v3, A4⟩
  have A4 : Hid (All (wrC bw v3 (some [1, 7, 2, 1, 1, 1, 113]) :: blkC Y [.pointer (some ⟨bw, 0, none⟩)] 66 :: blkC mb RC 34 :: cs) w3) := hid A4
  have y0 : w3.cell? ⟨Y, 0, none⟩ = some (.pointer (some ⟨bw, 0, none⟩)) := by rw [cell_at A4.out.tail.1.2.1]; rfl
  rw [← hY.out]
  clear A3
  go_wp2_with fail
  refine (doneW A4.out (by decide)).mono ?_
  rintro e w4 ⟨so, sc, rfl, A5⟩
  have A5 := hid A5
  clear A4 y0
  go_wp2
  go_ret2
  exact ⟨so, sc, rfl, A5.out.swap.tail.swap.tail.swap.tail⟩
end Go.Proofs.YthoppemjfdnibaaGreatDoor

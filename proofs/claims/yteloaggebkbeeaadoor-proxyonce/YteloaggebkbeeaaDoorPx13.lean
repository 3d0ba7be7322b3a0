import Derived.Test.YteloaggebkbeeaaDoorPx12
import Derived.Test.YteloaggebkbeeaaDoorJ18
namespace Go.Proofs.YteloaggebkbeeaaDoor
open Go.RowKit
set_option linter.unusedVariables false

/-- The example's client: what waits, with so many ticks left. -/
def xw (p1 p2 : Nat) (l : Int) : Px := ⟨3, 1, 0, 0, ⟨1, true, 1, ⟨#[113]⟩, ⟨#[]⟩, 0, 0, l, p1⟩, wt0 p2, 0, 0, 0⟩
/-- The example's reply. -/
def rpM : Ms := ⟨2, 2, 1, 5, 7, 0, 0, 0, 1, false, 0, ⟨#[]⟩, ⟨#[]⟩, 0, 0, 0, 0, none, 0, 0, none, 0, 0, 0, 0, none, 0, 0, none, 0, 0⟩
theorem rp_ml (W : World) : Ml W rpM [] [] [] [] :=
  ⟨⟨none, 0, rfl, Nat.le_refl _, Or.inl rfl⟩, fun i x hx => by simp at hx, fun i x hx => by simp at hx, fun i x hx => by simp at hx, rfl, rfl, rfl, rfl, by decide, by decide, by decide, by decide⟩
set_option maxRecDepth 100000 in
theorem rp_chk : chkM 3 rpM (fldE rpM.k.toNat rpM.h (rpM.may [] [] [] []) rpM.nil) = 0 := by decide +kernel
theorem rp_check {W : World} (hT : Tab W) (hF : Fld W) : Calls Tryd.prog 35 #[.int .i64 3, .agg rpM.cells.toArray] W fun e w' => e = .returned (.int .i64 0) ∧ Below W.heap.size W w' := by
  have := checkM_any (w := W) 3 (by decide) (by decide) rpM _ (fun hk W' b hW hM => fields34 (hT.below hW) (hF.below hW) hM (rp_ml W') (k := rpM.k.toNat) (by decide) (by decide))
  rw [rp_chk] at this
  exact this
theorem op_chk : chkA 1 (⟨#[113]⟩ : ByteArray).size (⟨#[]⟩ : ByteArray).size 0 0 = 0 := by decide +kernel
theorem ms_form {v : Value} {l : List Ms} {cs : List Comp} {w : World} (h : All (msC v l :: cs) w) : ∃ ao cap, v = .slice ao l.length cap := owns_form h.1.2.1
theorem xw_tick {P p1 p2 : Nat} {l : Int} {cs : List Comp} {w : World} (hl : l = 4 ∨ l = 3 ∨ l = 2) (h : All (pxL P (xw p1 p2 l) 4 64 8 4 ++ cs) w) : Calls Tryd.prog 14 #[.pointer (some ⟨P, 0, none⟩)] w fun e w' => ∃ ao cap, e = .returned (.slice ao 0 cap) ∧ All (pxL P (xw p1 p2 (l - 1)) 4 64 8 4 ++ cs) w' := by
  have dr : (xw p1 p2 l).rq.due = false := by rcases hl with rfl | rfl | rfl <;> rfl
  refine (tick_nn (x := xw p1 p2 l) h (fun _ => ⟨by show 1 ≤ l; omega, by show l ≤ 1024; omega⟩) (fun hh => by cases hh) (by decide) (by decide) (by decide) (by decide) (by decide) 3 rfl (by decide) (show (0 : Int) ≤ 0 by decide) (show (0 : Int) ≤ 7 by decide) (show (0 : Int) ≤ 0 by decide) (show (0 : Int) ≤ 4611686018427387904 by decide) dr rfl).mono ?_
  rintro e w' ⟨v, rfl, hA⟩
  obtain ⟨ao, cap, rfl⟩ := ms_form hA
  refine ⟨ao, cap, rfl, ?_⟩
  have h2 := hA.tail
  rcases hl with rfl | rfl | rfl <;> exact h2
theorem xw_due {P p1 p2 : Nat} {cs : List Comp} {w : World} (h : All (pxL P (xw p1 p2 1) 4 64 8 4 ++ cs) w) : Calls Tryd.prog 14 #[.pointer (some ⟨P, 0, none⟩)] w fun e w' => ∃ ao cap, e = .returned (.slice ao 3 cap) ∧ All (pxL P (xw p1 p2 8) 4 64 16 4 ++ cs) w' := by
  refine (tick_rn (x := xw p1 p2 1) h (fun _ => ⟨show (1 : Int) ≤ 1 by decide, show (1 : Int) ≤ 1024 by decide⟩) (fun hh => by cases hh) (by decide) (by decide) (by decide) (by decide) (by decide) 3 rfl (by decide) (show (0 : Int) ≤ 0 by decide) (show (0 : Int) ≤ 7 by decide) (show (0 : Int) ≤ 0 by decide) (show (0 : Int) ≤ 4611686018427387904 by decide) rfl rfl).mono ?_
  rintro e w' ⟨v, rfl, hA⟩
  obtain ⟨ao, cap, rfl⟩ := ms_form hA
  rw [again_len]
  exact ⟨ao, cap, rfl, hA.tail⟩

set_option maxHeartbeats 3200000 in
set_option maxRecDepth 1000000 in
/-- The document's examples. -/
theorem shown_any {w : World} (hT : Tab w) (hF : Fld w) : Calls Tryd.prog 6 #[] w fun e w' => e = .returned (.bool true) ∧ Below w.heap.size w w' := by
  have C18 : Hid (∀ W : World, Calls Tryd.prog 18 #[] W fun e w' => e = .returned (cfgV 3 2 2 3 8 64 4 4 8 2) ∧ w' = W.alloc (cfgB 3 2 2 3 8 64 4 4 8 2)) := hid (fun W => plain_any)
  have C7 : Hid (∀ W cs, All cs W → Calls Tryd.prog 7 #[cfgV 3 2 2 3 8 64 4 4 8 2, .int .i64 1] W fun e w' => ∃ P p1 p2, e = .returned (.tuple #[.pointer (some ⟨P, 0, none⟩), .int .i64 0]) ∧ All (pxL P (px0 3 1 p1 p2) 4 64 4 4 ++ cs) w') := hid (fun W cs hW => new_ok hW 3 2 2 3 8 64 4 4 8 2 1 (by decide +kernel) (by decide) (by decide))
  have D7 : Hid (∀ W : World, Calls Tryd.prog 7 #[cfgV 3 2 2 3 8 64 4 4 8 2, .int .i64 2] W fun e w' => e = .returned (.tuple #[.pointer none, .int .i64 140]) ∧ Below W.heap.size W w') := hid (fun W => new_id 3 2 2 3 8 64 4 4 8 2 2 (by decide +kernel) (by decide))
  have A0 := hid (All.came w)
  have HT := hid hT
  have HF := hid hF
  clear hT hF
  go_enter Tryd.func6, Tryd.ntmps6
  go_wp2_with fail
  refine (C18.out _).mono ?_
  rintro e w1 ⟨rfl, hw1⟩
  have A1 : Hid (All [inC w] w1) := hid (by rw [hw1]; exact A0.out.alloc _)
  clear hw1 A0
  go_wp2_with fail
  refine (C7.out _ _ A1.out).mono ?_
  rintro e w2 ⟨P, p1, p2, rfl, hw2⟩
  have A2 := hid hw2
  clear hw2 A1 C7
  go_wp2_with fail
  refine (C18.out _).mono ?_
  rintro e w3 ⟨rfl, hw3⟩
  have A3 : Hid (All (pxL P (px0 3 1 p1 p2) 4 64 4 4 ++ [inC w]) w3) := hid (by rw [hw3]; exact A2.out.alloc _)
  clear hw3 A2 C18
  go_wp2_with fail
  refine (D7.out _).mono ?_
  rintro e w4 ⟨rfl, hw4⟩
  have A4 := hid (A3.out.later hw4)
  clear hw4 A3 D7
  go_upto_region 6 with fail
  obtain ⟨H, hH⟩ : ∃ H, Hid (H = w4.heap.size) := ⟨_, hid rfl⟩
  have A5 := A4.out.addBlk [.int .i64 1, .string ⟨#[113]⟩, .string ⟨#[]⟩, .int .i64 0, .int .i64 0] 32
  rw [← hH.out] at A5
  have A5 := hid (A5.perm (List.perm_middle (l₁ := pxL P (px0 3 1 p1 p2) 4 64 4 4)).symm)
  simp only [← hH.out]
  have A5 : Hid (All (pxL P (px0 3 1 p1 p2) 4 64 4 4 ++ (blkC H [.int .i64 1, .string ⟨#[113]⟩, .string ⟨#[]⟩, .int .i64 0, .int .i64 0] 32 :: [inC w])) (w4.alloc (.cells #[.int .i64 1, .string ⟨#[113]⟩, .string ⟨#[]⟩, .int .i64 0, .int .i64 0] 32))) := A5
  generalize w4.alloc (.cells #[.int .i64 1, .string ⟨#[113]⟩, .string ⟨#[]⟩, .int .i64 0, .int .i64 0] 32) = w5 at A5 ⊢
  have HO : Hid (∀ W cs, All cs W → blkC H [.int .i64 1, .string ⟨#[113]⟩, .string ⟨#[]⟩, .int .i64 0, .int .i64 0] 32 ∈ cs → W.cell? ⟨H, 0, none⟩ = some (.int .i64 1) ∧ W.cell? ⟨H, 1, none⟩ = some (.string ⟨#[113]⟩) ∧ W.cell? ⟨H, 2, none⟩ = some (.string ⟨#[]⟩) ∧ W.cell? ⟨H, 3, none⟩ = some (.int .i64 0) ∧ W.cell? ⟨H, 4, none⟩ = some (.int .i64 0)) := hid (fun W cs hW hm => opCells (hW.blk hm))
  obtain ⟨o0, o1, o2, o3, o4⟩ := HO.out _ _ A5.out (by simp)
  have C10 := hid (submit_ok A5.out HT.out (by simp) 1 ⟨#[113]⟩ ⟨#[]⟩ 0 0 op_chk rfl (show (0 : Int) ≤ 0 by decide) (show (0 : Int) < 1099511627776 by decide) (by decide) (by decide) (by decide) (Or.inl rfl) (show (0 : Int) ≤ 0 by decide))
  go_wp2_with fail
  refine C10.out.mono ?_
  rintro e w6 ⟨G, rfl, hw6⟩
  have A6 : Hid (All (blkC G (rqM 1 0 (xw p1 p2 4).rq).cells 41 :: (pxL P (xw p1 p2 4) 4 64 8 4 ++ (blkC H [.int .i64 1, .string ⟨#[113]⟩, .string ⟨#[]⟩, .int .i64 0, .int .i64 0] 32 :: [inC w]))) w6) := hid hw6
  have A6 : Hid (All (pxL P (xw p1 p2 4) 4 64 8 4 ++ (blkC G (rqM 1 0 (xw p1 p2 4).rq).cells 41 :: blkC H [.int .i64 1, .string ⟨#[113]⟩, .string ⟨#[]⟩, .int .i64 0, .int .i64 0] 32 :: [inC w])) w6) := hid (A6.out.perm (List.perm_middle (l₁ := pxL P (xw p1 p2 4) 4 64 8 4)).symm)
  clear hw6 C10 A5 o0 o1 o2 o3 o4
  obtain ⟨o0, o1, o2, o3, o4⟩ := HO.out _ _ A6.out (by simp)
  have C10 := hid (submit_no A6.out HT.out (by simp) 1 ⟨#[113]⟩ ⟨#[]⟩ 0 0 op_chk (E := 141) (by decide) (fun W cs' hW => begR_busy hW rfl _ ⟨_, _, _, _, _, rfl⟩))
  go_wp2_with fail
  refine C10.out.mono ?_
  rintro e w7 ⟨rfl, hw7⟩
  have A7 := hid hw7
  clear hw7 C10 A6 o0 o1 o2 o3 o4 HO
  have T1 := hid (xw_tick (Or.inl rfl) A7.out)
  go_wp2_with fail
  refine T1.out.mono ?_
  rintro e w8 ⟨ta, tc, rfl, hw8⟩
  have A8 := hid hw8
  clear hw8 T1 A7
  have T1 := hid (xw_tick (Or.inr (Or.inl rfl)) A8.out)
  go_wp2_with fail
  refine T1.out.mono ?_
  rintro e w9 ⟨ua, uc, rfl, hw9⟩
  have A9 := hid hw9
  clear hw9 T1 A8
  have T1 := hid (xw_tick (Or.inr (Or.inr rfl)) A9.out)
  go_wp2_with fail
  refine T1.out.mono ?_
  rintro e w10 ⟨va, vc, rfl, hw10⟩
  have A10 := hid hw10
  clear hw10 T1 A9
  have T1 := hid (xw_due A10.out)
  go_wp2_with fail
  refine T1.out.mono ?_
  rintro e w11 ⟨ya, yc, rfl, hw11⟩
  have A11 := hid hw11
  clear hw11 T1 A10
  have C15 : Hid (Calls Tryd.prog 15 #[.pointer (some ⟨P, 0, none⟩), .agg rpM.cells.toArray] w11 fun e w' => e = .returned (.tuple #[.agg #[.bool false, .int .i64 1, .int .i64 7, .int .i64 0, .int .i64 0, .int .i64 0, .slice none 0 0], .bool true]) ∧ All (pxL P ((xw p1 p2 8).reply rpM) 4 64 4 4 ++ (blkC G (rqM 1 0 (xw p1 p2 4).rq).cells 41 :: blkC H [.int .i64 1, .string ⟨#[113]⟩, .string ⟨#[]⟩, .int .i64 0, .int .i64 0] 32 :: [inC w])) w') := hid (step_reply A11.out (by simp) rpM ⟨rfl, rfl, rfl, rfl, rfl⟩ (fun W hW => rp_check (HT.out.below hW) (HF.out.below hW)) rfl rfl rfl rfl)
  generalize hPM : rpM.cells.toArray = PM at C15
  have hPM := hid hPM
  go_wp2_with (refine wpList_buildTo rfl 41 _ rfl (some 60) rfl PM (by rw [← hPM.out]; kernel_rfl) ?_)
  refine C15.out.mono ?_
  rintro e w12 ⟨rfl, hw12⟩
  have A12 := hid hw12
  clear hw12 C15 A11 hPM
  obtain ⟨K1, hK1⟩ : ∃ K, Hid (K = w12.heap.size) := ⟨_, hid rfl⟩
  have A13 := A12.out.addBlk [.bool false, .int .i64 1, .int .i64 7, .int .i64 0, .int .i64 0, .int .i64 0, .slice none 0 0] 48
  rw [← hK1.out] at A13
  have A13 := hid (A13.perm (List.perm_middle (l₁ := pxL P ((xw p1 p2 8).reply rpM) 4 64 4 4)).symm)
  have A13 : Hid (All (pxL P ((xw p1 p2 8).reply rpM) 4 64 4 4 ++ (blkC K1 [.bool false, .int .i64 1, .int .i64 7, .int .i64 0, .int .i64 0, .int .i64 0, .slice none 0 0] 48 :: blkC G (rqM 1 0 (xw p1 p2 4).rq).cells 41 :: blkC H [.int .i64 1, .string ⟨#[113]⟩, .string ⟨#[]⟩, .int .i64 0, .int .i64 0] 32 :: [inC w])) (w12.alloc (.cells #[.bool false, .int .i64 1, .int .i64 7, .int .i64 0, .int .i64 0, .int .i64 0, .slice none 0 0] 48))) := A13
  go_upto_region 13 with fail
  simp only [← hK1.out]
  generalize w12.alloc (.cells #[.bool false, .int .i64 1, .int .i64 7, .int .i64 0, .int .i64 0, .int .i64 0, .slice none 0 0] 48) = w13 at A13 ⊢
  clear A12
  have C9 : Hid (Calls Tryd.prog 9 #[.pointer (some ⟨P, 0, none⟩)] w13 fun e w' => e = .returned (.agg #[.int .i64 1, .int .i64 0, .int .i64 0, .int .i64 7, .int .i64 5, .int .i64 1]) ∧ All (pxL P ((xw p1 p2 8).reply rpM) 4 64 4 4 ++ (blkC K1 [.bool false, .int .i64 1, .int .i64 7, .int .i64 0, .int .i64 0, .int .i64 0, .slice none 0 0] 48 :: blkC G (rqM 1 0 (xw p1 p2 4).rq).cells 41 :: blkC H [.int .i64 1, .string ⟨#[113]⟩, .string ⟨#[]⟩, .int .i64 0, .int .i64 0] 32 :: [inC w])) w') := hid (desk_any A13.out)
  go_wp2_with fail
  refine C9.out.mono ?_
  rintro e w14 ⟨rfl, hw14⟩
  have A14 := hid (hw14.tail.tail.tail.alloc (.cells #[.int .i64 1, .int .i64 0, .int .i64 0, .int .i64 7, .int .i64 5, .int .i64 1] 45))
  clear C9 A13
  have hG : G < w14.heap.size := hw14.tail.tail.tail.tail.1.2.2 G (by simp [blkC])
  have hK : K1 < w14.heap.size := hw14.tail.tail.tail.1.2.2 K1 (by simp [blkC])
  have g0 : w14.cell? ⟨G, 0, none⟩ = some (.int .i64 1) := by rw [cell_at hw14.tail.tail.tail.tail.1.2.1]; rfl
  have g1 : w14.cell? ⟨G, 1, none⟩ = some (.int .i64 1) := by rw [cell_at hw14.tail.tail.tail.tail.1.2.1]; rfl
  have g2 : w14.cell? ⟨G, 2, none⟩ = some (.int .i64 0) := by rw [cell_at hw14.tail.tail.tail.tail.1.2.1]; rfl
  have g8 : w14.cell? ⟨G, 8, none⟩ = some (.int .i64 1) := by rw [cell_at hw14.tail.tail.tail.tail.1.2.1]; rfl
  have k1 : w14.cell? ⟨K1, 1, none⟩ = some (.int .i64 1) := by rw [cell_at hw14.tail.tail.tail.1.2.1]; rfl
  have k2 : w14.cell? ⟨K1, 2, none⟩ = some (.int .i64 7) := by rw [cell_at hw14.tail.tail.tail.1.2.1]; rfl
  clear hw14
  go_wp2
  go_ret
  exact ⟨rfl, A14.out.into (by simp)⟩
set_option maxRecDepth 1000000 in
/-- THE LAW: the numbers. -/
theorem names_any {w : World} (hT : Tab w) (hF : Fld w) : Calls Tryd.prog 5 #[] w fun e w' => e = .returned (.bool true) ∧ Below w.heap.size w w' := by
  have S := hid (shown_any hT hF)
  clear hT hF
  go_enter Tryd.func5, Tryd.ntmps5
  go_wp2_with fail
  refine S.out.mono ?_
  rintro e w1 ⟨rfl, B1⟩
  have B1 := hid B1
  clear S
  go_wp2
  go_ret
  exact ⟨rfl, B1.out⟩
end Go.Proofs.YteloaggebkbeeaaDoor

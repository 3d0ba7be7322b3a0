import Derived.Test.YteloaggebkbeeaaDoorJ21
import Derived.Laws.MakeOwn
import Derived.Deep.WholeRow
namespace Go.Proofs.YteloaggebkbeeaaDoor
open Go.RowKit
set_option linter.unusedVariables false

theorem made_ones (z : Value) (hz : z.cells = #[z]) (n : Nat) : madeCells z.cells (n * 1) = (List.replicate n z).toArray := by
  rw [hz, Nat.mul_one]
  apply Array.ext
  · simp [size_madeCells]
  · intro i h1 h2
    simp [madeCells, Nat.mod_one]
theorem bools_arr (n : Nat) : ((List.replicate n false).map Value.bool).toArray = Array.replicate n (Value.bool false) := by simp
theorem Tryd.inf4 : (Tryd.prog.info? 4).map (fun i => (i.zero, i.size, i.bytes)) = some (some (.bool false), 1, 1) := by kernel_rfl
theorem und60 : Tryd.prog.underlying 60 = some (.slice 4) := by kernel_rfl
theorem make_bools {w : World} (n : Nat) (hn : n ≤ 1000) : (Instr.makeSlice 60 (.int .i64 n) (.int .i64 n)).run Tryd.prog w = .ok (.slice (some ⟨w.heap.size, 0, none⟩) n n) (w.alloc (.cells (Array.replicate n (.bool false)) 4)) := by
  obtain ⟨i0, hi, hz0, hz1, hz2⟩ := info_parts Tryd.inf4
  have h := run_make (P := Tryd.prog) w 60 4 i0 (.bool false) und60 hi hz0 .i64 .i64 n n (by omega) (by omega) (by rw [hz2]; omega) (by omega)
  rw [hz1, Int.toNat_natCast, made_ones (.bool false) rfl] at h
  rw [h]
  simp
theorem chk8 : chkA 8 (⟨#[]⟩ : ByteArray).size (⟨#[]⟩ : ByteArray).size 0 0 = 0 := by decide +kernel
theorem Cg.new {cs : List Comp} {w : World} (h : All cs w) (c : Cg) (hc : c.ok = true) : Calls Tryd.prog 7 #[.agg c.cells.toArray, .int .i64 0] w fun e w' => ∃ P p1 p2, e = .returned (.tuple #[.pointer (some ⟨P, 0, none⟩), .int .i64 0]) ∧ All (pxL P (px0 c.a0 0 p1 p2) c.a6 c.a5 c.a6 c.a6 ++ cs) w' :=
  new_ok h c.a0 c.a1 c.a2 c.a3 c.a4 c.a5 c.a6 c.a7 c.a8 c.a9 0 hc (by decide) (by have := cfg_bounds hc; omega)
set_option maxHeartbeats 6400000 in
set_option maxRecDepth 1000000 in
/-- THE LAW: what waits is said again. -/
theorem again_law {w : World} (hT : Tab w) (hF : Fld w) (c : Cg) (k : Int) (nm tx : ByteArray) (a d who ticks : Int) (hwho : -9223372036854775808 ≤ who ∧ who ≤ 9223372036854775807) (hticks : -9223372036854775808 ≤ ticks ∧ ticks ≤ 9223372036854775807) :
    Calls Tryd.prog 4 #[.agg c.cells.toArray, opV k nm tx a d, .int .i64 who, .int .i64 ticks] w fun e w' => e = .returned (.bool true) ∧ Below w.heap.size w w' := by
  obtain ⟨cc, hcc⟩ : ∃ cc, Hid (cc = c.right) := ⟨_, hid rfl⟩
  have hok : cc.ok = true := by rw [hcc.out]; exact c.right_ok
  have BD := hid (cfg_bounds hok)
  obtain ⟨N, hN⟩ : ∃ N : Nat, Hid (cc.a0 = (N : Int)) := ⟨cc.a0.toNat, hid (by have := BD.out; omega)⟩
  have hN7 : Hid (1 ≤ N ∧ N ≤ 7) := hid (by have := BD.out; have := hN.out; omega)
  obtain ⟨C0, hC0⟩ : ∃ b, Hid (b = w.heap.size) := ⟨_, hid rfl⟩
  obtain ⟨O0, hO0⟩ : ∃ b, Hid (b = w.heap.size + 1) := ⟨_, hid rfl⟩
  have A1 : Hid (All (blkC O0 [.int .i64 k, .string nm, .string tx, .int .i64 a, .int .i64 d] 32 :: blkC C0 c.cells 23 :: [inC w]) ((w.alloc (.cells c.cells.toArray 23)).alloc (.cells #[.int .i64 k, .string nm, .string tx, .int .i64 a, .int .i64 d] 32))) := hid (by
    have := (((All.came w).addBlk c.cells 23).addBlk [.int .i64 k, .string nm, .string tx, .int .i64 a, .int .i64 d] 32)
    simp only [World.size_alloc] at this
    rw [hC0.out, hO0.out]
    exact this)
  have C6 : Hid (∀ W, Below w.heap.size w W → Calls Tryd.prog 6 #[] W fun e w' => e = .returned (.bool true) ∧ Below W.heap.size W w') := hid (fun W hW => shown_any (hT.below hW) (hF.below hW))
  have C8 : Hid (∀ W cs, All cs W → Calls Tryd.prog 8 #[.agg c.cells.toArray] W fun e w' => e = .returned (.agg cc.cells.toArray) ∧ All cs w') := hid (fun W cs hW => by rw [hcc.out]; exact right_any hW c)
  have C7 : Hid (∀ W cs, All cs W → Calls Tryd.prog 7 #[.agg cc.cells.toArray, .int .i64 0] W fun e w' => ∃ P p1 p2, e = .returned (.tuple #[.pointer (some ⟨P, 0, none⟩), .int .i64 0]) ∧ All (pxL P (px0 (N : Int) 0 p1 p2) cc.a6 cc.a5 cc.a6 cc.a6 ++ cs) w') := hid (fun W cs hW => by rw [← hN.out]; exact Cg.new hW cc hok)
  have C11 : Hid (∀ W : World, Calls Tryd.prog 11 #[opV k nm tx a d] W fun e w' => e = .returned (.int .i64 (chkA k nm.size tx.size a d)) ∧ Below W.heap.size W w') := hid (fun W => rcheck_any k nm tx a d)
  have I23 : Hid ((Tryd.prog.info? 23).map (·.size) = some c.cells.toArray.size) := hid info23
  have J23 : Hid ((Tryd.prog.info? 23).map (·.size) = some cc.cells.toArray.size) := hid info23
  have O23 : Hid (cc.cells.toArray.all (·.oneCell') = true) := hid (by simp [Cg.cells, Value.oneCell'])
  have Z23 : Hid (((#[.int .i64 0, .int .i64 0, .int .i64 0, .int .i64 0, .int .i64 0, .int .i64 0, .int .i64 0, .int .i64 0, .int .i64 0, .int .i64 0]) : Array Value).size = cc.cells.toArray.size) := hid rfl
  obtain ⟨PC, hPC⟩ : ∃ PC, Hid (PC = c.cells.toArray) := ⟨_, hid rfl⟩
  obtain ⟨PD, hPD⟩ : ∃ PD, Hid (PD = cc.cells.toArray) := ⟨_, hid rfl⟩
  have HC0 : Hid (∀ W cs, All cs W → blkC C0 c.cells 23 ∈ cs → W.heap[C0]? = some (.cells PC 23 (0, 0))) := hid (fun W cs hW hm => by rw [hPC.out]; exact hW.blk hm)
  rw [← hPC.out] at A1 C8 I23 ⊢
  rw [← hPD.out] at C8 C7 J23 O23 Z23
  have HT := hid hT
  clear hT hF hok
  have HW := hid hwho
  have HK := hid hticks
  clear hwho hticks
  go_enter Tryd.func4, Tryd.ntmps4
  go_upto_region 1 with fail
  simp only [← hC0.out]
  have eO : C0 + 1 = O0 := by rw [hC0.out, hO0.out]
  simp only [eO]
  clear eO
  generalize (w.alloc (.cells PC 23)).alloc (.cells #[.int .i64 k, .string nm, .string tx, .int .i64 a, .int .i64 d] 32) = w1 at A1 ⊢
  go_wp2_with fail
  refine (C6.out _ (A1.out.into (by simp))).mono ?_
  rintro e w2 ⟨rfl, BB⟩
  have A2 := hid (A1.out.later BB)
  clear BB A1 C6
  have H2 := hid (HC0.out _ _ A2.out (by simp))
  go_wp2_with (refine wpList_load_row rfl 23 _ rfl C0 rfl 23 PC (0, 0) _ H2.out Tryd.underlying23 rfl I23.out ?_)
  refine (C8.out _ _ A2.out).mono ?_
  rintro e w3 ⟨rfl, hw3⟩
  have A3 := hid hw3
  clear hw3 A2 H2 C8
  obtain ⟨D, hD⟩ : ∃ b, Hid (b = w3.heap.size) := ⟨_, hid rfl⟩
  have A4 := hid (A3.out.addBlk cc.cells 23)
  have eK : Hid ((w3.alloc (.cells #[.int .i64 0, .int .i64 0, .int .i64 0, .int .i64 0, .int .i64 0, .int .i64 0, .int .i64 0, .int .i64 0, .int .i64 0, .int .i64 0] 23)).setRow D PD = w3.alloc (.cells PD 23)) := hid (by rw [hD.out]; exact World.setRow_alloc_new _ _ _ _)
  have hKn : Hid ((w3.alloc (.cells #[.int .i64 0, .int .i64 0, .int .i64 0, .int .i64 0, .int .i64 0, .int .i64 0, .int .i64 0, .int .i64 0, .int .i64 0, .int .i64 0] 23)).heap[D]? = some (.cells #[.int .i64 0, .int .i64 0, .int .i64 0, .int .i64 0, .int .i64 0, .int .i64 0, .int .i64 0, .int .i64 0, .int .i64 0, .int .i64 0] 23 (0, 0))) := hid (by rw [hD.out]; exact heap_alloc_new _ _)
  rw [← hD.out, ← hPD.out] at A4
  go_upto_region 3 with (refine wpList_store_row rfl 23 _ _ rfl D PD (by rw [hD.out]; rfl) rfl 23 _ hKn.out J23.out Z23.out O23.out ?_)
  rw [eK.out, ← hD.out]
  generalize w3.alloc (.cells PD 23) = w4 at A4 ⊢
  clear eK hKn
  have HD : Hid (∀ W cs, All cs W → blkC D cc.cells 23 ∈ cs → W.heap[D]? = some (.cells PD 23 (0, 0))) := hid (fun W cs hW hm => by rw [hPD.out]; exact hW.blk hm)
  have H4 := hid (HD.out _ _ A4.out (by simp))
  go_wp2_with (refine wpList_load_row rfl 23 _ rfl D rfl 23 PD (0, 0) _ H4.out Tryd.underlying23 rfl J23.out ?_)
  refine (C7.out _ _ A4.out).mono ?_
  rintro e w5 ⟨P, p1, p2, rfl, hw5⟩
  have A5 : Hid (All (pxL P (px0 (N : Int) 0 p1 p2) cc.a6 cc.a5 cc.a6 cc.a6 ++ (blkC D cc.cells 23 :: blkC O0 [.int .i64 k, .string nm, .string tx, .int .i64 a, .int .i64 d] 32 :: blkC C0 c.cells 23 :: [inC w])) w5) := hid hw5
  clear hw5 C7 A4 H4 A3
  obtain ⟨o0, o1, o2, o3, o4⟩ := opCells (A5.out.blk (g := O0) (vs := [.int .i64 k, .string nm, .string tx, .int .i64 a, .int .i64 d]) (t := 32) (by simp))
  obtain ⟨E, hE⟩ : ∃ E, Hid (E = chkA k nm.size tx.size a d) := ⟨_, hid rfl⟩
  rw [← hE.out] at C11
  go_wp2_with fail
  refine (C11.out _).mono ?_
  rintro e w6 ⟨rfl, BB⟩
  have A6 := hid (A5.out.later BB)
  clear BB o0 o1 o2 o3 o4 A5
  go_upto_if 47 with fail
  go_cut [] (fun wx => ∃ k' nm' tx' a' d', Hid (chkA k' (ByteArray.size nm') (ByteArray.size tx') a' d' = 0) ∧ Hid (All (pxL P (px0 (N : Int) 0 p1 p2) cc.a6 cc.a5 cc.a6 cc.a6 ++ (blkC D cc.cells 23 :: blkC O0 [.int .i64 k', .string nm', .string tx', .int .i64 a', .int .i64 d'] 32 :: blkC C0 c.cells 23 :: [inC w])) wx))
  case first =>
    obtain ⟨o0, o1, o2, o3, o4⟩ := opCells (A6.out.blk (g := O0) (vs := [.int .i64 k, .string nm, .string tx, .int .i64 a, .int .i64 d]) (t := 32) (by simp))
    by_cases he : E = 0
    · have e1 : (E != 0) = false := by simpa using he
      have hE0 : Hid (chkA k nm.size tx.size a d = 0) := hid (by rw [← hE.out]; exact he)
      clear he
      go_wp2_with fail
      go_meet
      exact ⟨k, nm, tx, a, d, hE0, A6⟩
    · have e1 : (E != 0) = true := by simpa using he
      clear he
      have hO := A6.out.blk (g := O0) (vs := [.int .i64 k, .string nm, .string tx, .int .i64 a, .int .i64 d]) (t := 32) (by simp)
      have f0 := free_at hO 0
      have f1 := free_at hO 1
      have f2 := free_at hO 2
      have f3 := free_at hO 3
      have f4 := free_at hO 4
      have A7 : Hid (All (pxL P (px0 (N : Int) 0 p1 p2) cc.a6 cc.a5 cc.a6 cc.a6 ++ (blkC D cc.cells 23 :: blkC O0 [.int .i64 8, .string ⟨#[]⟩, .string ⟨#[]⟩, .int .i64 0, .int .i64 0] 32 :: blkC C0 c.cells 23 :: [inC w])) (((((w6.setCell ⟨O0, 0, none⟩ (.int .i64 8)).setCell ⟨O0, 1, none⟩ (.string ⟨#[]⟩)).setCell ⟨O0, 2, none⟩ (.string ⟨#[]⟩)).setCell ⟨O0, 3, none⟩ (.int .i64 0)).setCell ⟨O0, 4, none⟩ (.int .i64 0))) := hid (by
        have h1 := A6.out.perm (List.perm_middle (a := blkC O0 [.int .i64 k, .string nm, .string tx, .int .i64 a, .int .i64 d] 32) (l₁ := pxL P (px0 (N : Int) 0 p1 p2) cc.a6 cc.a5 cc.a6 cc.a6 ++ [blkC D cc.cells 23]))
        have h2 := ((((h1.setBlk 0 (.int .i64 8)).setBlk 1 (.string ⟨#[]⟩)).setBlk 2 (.string ⟨#[]⟩)).setBlk 3 (.int .i64 0)).setBlk 4 (.int .i64 0)
        exact h2.perm (List.perm_middle (a := blkC O0 [.int .i64 8, .string ⟨#[]⟩, .string ⟨#[]⟩, .int .i64 0, .int .i64 0] 32) (l₁ := pxL P (px0 (N : Int) 0 p1 p2) cc.a6 cc.a5 cc.a6 cc.a6 ++ [blkC D cc.cells 23])).symm)
      clear hO
      go_wp2_with fail
      go_meet
      exact ⟨8, ⟨#[]⟩, ⟨#[]⟩, 0, 0, hid chk8, A7⟩
  case rest =>
  obtain ⟨k', nm', tx', a', d', hchk, A6⟩ := hcut
  clear C11
  have hN3 : Hid ((N : Int) = 3 ∨ (N : Int) = 5 ∨ (N : Int) = 7) := hid (by have := BD.out.1; rw [hN.out] at this; exact this)
  obtain ⟨o0, o1, o2, o3, o4⟩ := opCells (A6.out.blk (g := O0) (vs := [.int .i64 k', .string nm', .string tx', .int .i64 a', .int .i64 d']) (t := 32) (by simp))
  have C10 := hid (submit_ok A6.out HT.out (by simp) k' nm' tx' a' d' hchk.out rfl (show (0 : Int) ≤ 0 by decide) (show (0 : Int) < 1099511627776 by decide) BD.out.2.2.1 BD.out.2.2.2.1 BD.out.2.2.2.2 hN3.out (show (0 : Int) ≤ 0 by decide))
  go_wp2_with fail
  refine C10.out.mono ?_
  rintro e w7 ⟨G, rfl, hw7⟩
  obtain ⟨x1, hx1⟩ : ∃ x1, Hid (x1 = (px0 (N : Int) 0 p1 p2).sub k' nm' tx' a' d' cc.a6) := ⟨_, hid rfl⟩
  obtain ⟨tt, htt⟩ : ∃ t : Int, Hid (t = Int.tmod 0 (N : Int)) := ⟨_, hid rfl⟩
  have A7 : Hid (All (blkC G (rqM 0 tt x1.rq).cells 41 :: (pxL P x1 cc.a6 cc.a5 (min (2 * cc.a6) cc.a5) cc.a6 ++ (blkC D cc.cells 23 :: blkC O0 [.int .i64 k', .string nm', .string tx', .int .i64 a', .int .i64 d'] 32 :: blkC C0 c.cells 23 :: [inC w]))) w7) := hid (by rw [htt.out, hx1.out]; exact hw7)
  have A7 : Hid (All (pxL P x1 cc.a6 cc.a5 (min (2 * cc.a6) cc.a5) cc.a6 ++ (blkC G (rqM 0 tt x1.rq).cells 41 :: blkC D cc.cells 23 :: blkC O0 [.int .i64 k', .string nm', .string tx', .int .i64 a', .int .i64 d'] 32 :: blkC C0 c.cells 23 :: [inC w])) w7) := hid (A7.out.perm (List.perm_middle (l₁ := pxL P x1 cc.a6 cc.a5 (min (2 * cc.a6) cc.a5) cc.a6)).symm)
  clear hw7 C10 A6 o0 o1 o2 o3 o4
  have D0 : Hid (∀ W cs, All cs W → blkC D cc.cells 23 ∈ cs → W.cell? ⟨D, 0, none⟩ = some (.int .i64 (N : Int)) ∧ W.cell? ⟨D, 5, none⟩ = some (.int .i64 cc.a5)) := hid (fun W cs hW hm => ⟨by rw [cell_at (hW.blk hm), ← hN.out]; rfl, by rw [cell_at (hW.blk hm)]; rfl⟩)
  obtain ⟨n0, _⟩ := D0.out _ _ A7.out (by simp)
  have C13 : Hid (∀ W : World, Calls Tryd.prog 13 #[.int .i64 who, .int .i64 (N : Int)] W fun e w' => e = .returned (.int .i64 (pickV who (N : Int))) ∧ w' = W) := hid (fun W => pick_is who N HW.out (by have := hN7.out; omega))
  have hwv := hid (pickV_nonneg (c := who) (n := (N : Int)) (by have := hN7.out; omega))
  obtain ⟨wh, hwh⟩ : ∃ v, Hid (v = pickV who (N : Int)) := ⟨_, hid rfl⟩
  rw [← hwh.out] at C13 hwv
  have C12 := hid (ask_ok A7.out HT.out (by simp) 8 ⟨#[]⟩ ⟨#[]⟩ 0 0 chk8 (by decide) wh hwv.out.1 (by rw [hx1.out]; exact hwv.out.2) (by rw [hx1.out]; rfl) (by rw [hx1.out]; exact (show (0 : Int) ≤ 0 by decide)) (by rw [hx1.out]; exact (show (0 : Int) < 1099511627776 by decide)) BD.out.2.2.1 BD.out.2.2.2.1 BD.out.2.2.2.2)
  go_wp2_with (go_at_call 13; refine (C13.out _).mono ?_; rintro e w' ⟨rfl, rfl⟩)
  refine C12.out.mono ?_
  rintro e w8 ⟨G2, rfl, hw8⟩
  obtain ⟨x2, hx2⟩ : ∃ x2, Hid (x2 = x1.asked 8 ⟨#[]⟩ ⟨#[]⟩ 0 0 cc.a6 wh) := ⟨_, hid rfl⟩
  have A8 : Hid (All (pxL P x2 cc.a6 cc.a5 (min (2 * cc.a6) cc.a5) (min (2 * cc.a6) cc.a5) ++ (blkC G (rqM 0 tt x1.rq).cells 41 :: blkC D cc.cells 23 :: blkC O0 [.int .i64 k', .string nm', .string tx', .int .i64 a', .int .i64 d'] 32 :: blkC C0 c.cells 23 :: [inC w])) w8) := hid (by rw [hx2.out]; exact hw8.tail)
  clear hw8 C12 C13 A7 n0
  obtain ⟨n0, _⟩ := D0.out _ _ A8.out (by simp)
  have MK := make_bools (w := w8) N (by have := hN7.out; omega)
  obtain ⟨HB, hHB⟩ : ∃ b, Hid (b = w8.heap.size) := ⟨_, hid rfl⟩
  have A9 : Hid (All (pxL P x2 cc.a6 cc.a5 (min (2 * cc.a6) cc.a5) (min (2 * cc.a6) cc.a5) ++ (blkC HB (List.map Value.bool (List.replicate N false)) 4 :: blkC G (rqM 0 tt x1.rq).cells 41 :: blkC D cc.cells 23 :: [inC w])) (w8.alloc (.cells (Array.replicate N (.bool false)) 4))) := hid (by
    rw [← bools_arr]
    have h1 := A8.out.addBlk ((List.replicate N false).map Value.bool) 4
    rw [← hHB.out] at h1
    have h2 := h1.perm (List.perm_middle (l₁ := pxL P x2 cc.a6 cc.a5 (min (2 * cc.a6) cc.a5) (min (2 * cc.a6) cc.a5))).symm
    have h3 := (h2.perm (List.perm_middle (a := blkC O0 [.int .i64 k', .string nm', .string tx', .int .i64 a', .int .i64 d'] 32) (l₁ := pxL P x2 cc.a6 cc.a5 (min (2 * cc.a6) cc.a5) (min (2 * cc.a6) cc.a5) ++ [blkC HB ((List.replicate N false).map Value.bool) 4, blkC G (rqM 0 tt x1.rq).cells 41, blkC D cc.cells 23]))).tail
    exact (h3.perm (List.perm_middle (a := blkC C0 c.cells 23) (l₁ := pxL P x2 cc.a6 cc.a5 (min (2 * cc.a6) cc.a5) (min (2 * cc.a6) cc.a5) ++ [blkC HB ((List.replicate N false).map Value.bool) 4, blkC G (rqM 0 tt x1.rq).cells 41, blkC D cc.cells 23]))).tail)
  have IV : Hid (Inv x2 N wh 0 cc.a5 (min (2 * cc.a6) cc.a5) (min (2 * cc.a6) cc.a5) 0 x1.rq) := hid (by
    have hb := BD.out
    have hm : 1 ≤ min (2 * cc.a6) cc.a5 ∧ min (2 * cc.a6) cc.a5 ≤ cc.a5 := ⟨by rw [Int.le_min]; omega, Int.min_le_right _ _⟩
    rw [hx2.out]
    exact ⟨by rw [hx1.out]; rfl, by rw [hx1.out]; rfl, by rw [hx1.out]; rfl, by rw [hx1.out]; exact hb.2.2.1, by rw [hx1.out]; show 0 + cc.a6 ≤ cc.a5; omega, by decide, fun f t => rfl, rfl, ⟨hb.2.2.1, hb.2.2.2.1⟩, by rw [hx1.out]; rfl, rfl, by rw [hx1.out]; rfl, hm, hm⟩)
  have HH : Hid (Heard (List.replicate N false) wh 0 N) := hid ⟨by simp, fun j hj => by omega⟩
  clear A8
  go_upto_region 15 with fail
  rw [← hHB.out]
  generalize w8.alloc (.cells (Array.replicate N (.bool false)) 4) = w9 at A9 ⊢
  clear MK n0
  obtain ⟨T, hTT⟩ : ∃ T : Nat, Hid ((T : Int) = pickV ticks (20 * cc.a5)) := ⟨(pickV ticks (20 * cc.a5)).toNat, hid (by have := (pickV_nonneg (c := ticks) (n := 20 * cc.a5) (by have := BD.out; omega)).1; omega)⟩
  have hTb : Hid (T ≤ 20480) := hid (by have := (pickV_nonneg (c := ticks) (n := 20 * cc.a5) (by have := BD.out; omega)).2; have := hTT.out; have := BD.out; omega)
  have C13 : Hid (∀ W : World, Calls Tryd.prog 13 #[.int .i64 ticks, .int .i64 (20 * cc.a5)] W fun e w' => e = .returned (.int .i64 (T : Int)) ∧ w' = W) := hid (fun W => by rw [hTT.out]; exact pick_is ticks _ HK.out (by have := BD.out; omega))
  have wr20 : IntKind.i64.wrap (20 * cc.a5) = 20 * cc.a5 := by rw [IntKind.wrap_i64]; have := BD.out; omega
  go_wp2
  go_loopw [18, 19, 20] (fun qv tv iv wr => ∃ (t tm : Nat) (quiet : Int) (x : Px) (n1 n2 : Int) (hs : List Bool) (tq : Int), iv = .int .i64 (t : Int) ∧ tv = .int .i64 (tm : Int) ∧ qv = .int .i64 quiet ∧ t ≤ T ∧ tm ≤ t ∧ Hid (Inv x N wh tm cc.a5 n1 n2 quiet x1.rq) ∧ Hid (Heard hs wh tm N) ∧ Hid (All (pxL P x cc.a6 cc.a5 n1 n2 ++ (blkC HB (List.map Value.bool hs) 4 :: blkC G (rqM 0 tq x1.rq).cells 41 :: blkC D cc.cells 23 :: [inC w])) wr)) (fun _ _ iv _ => T - (intOf iv).toNat)
  case atStart => exact ⟨0, 0, 0, x2, _, _, _, tt, rfl, rfl, rfl, Nat.zero_le _, Nat.le_refl _, IV, HH, A9⟩
  case round =>
    clear A9 IV HH
    obtain ⟨t, tm, quiet, x, n1, n2, hs, tq, rfl, rfl, rfl, htT, htm, IV, HH, A⟩ := hrel
    obtain ⟨d0, d5⟩ := D0.out _ _ A.out (by simp)
    by_cases hlt : t < T
    · have el : decide ((t : Int) < (T : Int)) = true := by simpa using hlt
      have qs := IV.out.step
      have eq1 : IntKind.i64.wrap (quiet + 1) = quiet + 1 := by rw [IntKind.wrap_i64]; have := IV.out.q0; have := qs.2; have := BD.out; omega
      have TK := hid (tick_any A.out (fun _ => ⟨IV.out.rl, by have := IV.out.q; have := IV.out.q0; have := BD.out; omega⟩) (fun _ => ⟨IV.out.ql.1, by have := IV.out.ql; have := BD.out; omega⟩) IV.out.b1.1 IV.out.b1.2 BD.out.2.2.2.2 IV.out.b2.1 IV.out.b2.2 N IV.out.n hN7.out (by rw [IV.out.w]; exact hwv.out.1) (by rw [IV.out.w]; have := hwv.out.2; have := hN7.out; omega) (by rw [IV.out.a]; omega) (by rw [IV.out.a]; have := hTb.out; omega))
      have qs := hid qs
      go_wp2_with (go_at_call 13; refine (C13.out _).mono ?_; rintro e w' ⟨rfl, hw'⟩; subst w')
      refine TK.out.mono ?_
      rintro e w10 ⟨v, rfl, hA⟩
      obtain ⟨L, hL⟩ : ∃ L, Hid (L = sayR x N ++ sayQ x) := ⟨_, hid rfl⟩
      rw [← hL.out] at hA
      obtain ⟨ao, cap, rfl⟩ := ms_form hA
      obtain ⟨R, hR⟩ : ∃ R : Nat, Hid (R = if x.rq.due then N else 0) := ⟨_, hid rfl⟩
      have hRN : Hid (R = N ∨ R = 0) := hid (by rw [hR.out]; split <;> simp)
      have hRl : Hid ((sayR x N).length = R) := hid (by rw [hR.out]; unfold sayR; split <;> simp [again_len])
      have hQl : Hid ((sayQ x).length = bq x) := hid (by unfold sayQ bq; split <;> rfl)
      have hLl : Hid (L.length = R + bq x) := hid (by rw [hL.out, List.length_append, hRl.out, hQl.out])
      have hLr : Hid (∀ i : Nat, i < R → L[i]? = some (rqM 0 i x1.rq)) := hid (fun i hi => by
        rw [hL.out, List.getElem?_append_left (by rw [hRl.out]; exact hi)]
        have hd : x.rq.due = true := by
          have h1 := hR.out
          cases hh : x.rq.due with
          | true => rfl
          | false => rw [hh] at h1; simp at h1; omega
        have hiN : i < N := by have h1 := hR.out; rw [hd] at h1; simp at h1; omega
        simp only [sayR, hd, if_true, again]
        rw [List.getElem?_map, List.getElem?_range hiN, Option.map_some, IV.out.id, IV.out.s])
      have hLq : Hid (bq x = 1 → L[R]? = some (asM 0 ((wh + (tm : Int)).tmod (N : Int)) x.least x.qu)) := hid (fun hb => by
        rw [hL.out, List.getElem?_append_right (by rw [hRl.out]; exact Nat.le_refl _), hRl.out, Nat.sub_self]
        have hd : x.qu.due = true := by
          cases hh : x.qu.due with
          | true => rfl
          | false => simp [bq, hh] at hb
        simp only [sayQ, hd, if_true, List.getElem?_cons_zero]
        rw [IV.out.id, IV.out.w, IV.out.a, IV.out.n])
      have hbq : Hid (bq x = 0 ∨ bq x = 1) := hid (by unfold bq; split <;> simp)
      obtain ⟨LL, hLL⟩ : ∃ LL : Nat, Hid (LL = L.length) := ⟨_, hid rfl⟩
      have hLL14 : LL ≤ 8 := by rw [hLL.out, hLl.out]; have := hRN.out; have := hbq.out; have := hN7.out; omega
      have A10 : Hid (All (msC (.slice ao LL cap) L :: (pxL P (x.tick n1 n2) cc.a6 cc.a5 (x.rq.now n1 cc.a5) (x.qu.now n2 cc.a5) ++ (blkC HB (List.map Value.bool hs) 4 :: blkC G (rqM 0 tq x1.rq).cells 41 :: blkC D cc.cells 23 :: [inC w]))) w10) := hid (by rw [hLL.out]; exact hA)
      clear hA TK
      rw [← hLL.out]
      clear A d0 d5
      go_wp2
      go_loopw [19, 22, 23] (fun tv av iv wr2 => ∃ (i : Nat) (hs2 : List Bool) (t2 : Int), i ≤ LL ∧ iv = .int .i64 (i : Int) ∧ av = .int .i64 ((min i R : Nat) : Int) ∧ tv = .int .i64 ((tm + (i - R) : Nat) : Int) ∧ Hid (Heard hs2 wh (tm + (i - R)) N) ∧ Hid (All (msC (.slice ao LL cap) L :: (pxL P (x.tick n1 n2) cc.a6 cc.a5 (x.rq.now n1 cc.a5) (x.qu.now n2 cc.a5) ++ (blkC HB (List.map Value.bool hs2) 4 :: blkC G (rqM 0 t2 x1.rq).cells 41 :: blkC D cc.cells 23 :: [inC w]))) wr2)) (fun _ _ iv _ => LL - (intOf iv).toNat)
      case atStart => exact ⟨0, hs, tq, Nat.zero_le _, rfl, by simp, by simp, by simpa using HH, A10⟩
      case round =>
        clear A10 HH
        obtain ⟨i, hs2, t2, hiL, rfl, rfl, rfl, HH, A⟩ := hrel
        by_cases hlt2 : i < LL
        · have el2 : decide ((i : Int) < (LL : Int)) = true := by simpa using hlt2
          have iLt : i < L.length := by rw [← hLL.out]; exact hlt2
          obtain ⟨mm, hmm⟩ : ∃ mm, Hid (L[i]? = some mm) := ⟨_, hid (List.getElem?_eq_getElem iLt)⟩
          obtain ⟨g, o, eao, hg, hc⟩ := flat_row Ms.len (by decide) A.out.1.2.1 i mm hmm.out
          subst eao
          obtain ⟨mc, hmc⟩ : ∃ mc, Hid (mc = mm.cells) := ⟨_, hid rfl⟩
          rw [← hmc.out] at hc
          have RG : Hid (wr.rangeAt g (o + i * 23) mc) := hid (fun j u hu => hc j u hu)
          have I41 : Hid ((Tryd.prog.info? 41).map (·.size) = some mc.length) := hid (by rw [hmc.out]; have := info41 mm; simpa using this)
          have J41 := hid (info41 mm)
          have O41 := hid (one41 mm)
          rw [← hmc.out] at J41 O41
          have Z41 : Hid (((#[.int .i64 0, .int .i64 0, .int .i64 0, .int .i64 0, .int .i64 0, .int .i64 0, .int .i64 0, .int .i64 0, .int .i64 0, .bool false, .int .i64 0, .string ⟨#[]⟩, .string ⟨#[]⟩, .int .i64 0, .int .i64 0, .int .i64 0, .int .i64 0, .slice none 0 0, .slice none 0 0, .int .i64 0, .int .i64 0, .slice none 0 0, .slice none 0 0]) : Array Value).size = mc.toArray.size) := hid (by rw [hmc.out]; rfl)
          obtain ⟨MB, hMB⟩ : ∃ b, Hid (b = wr.heap.size) := ⟨_, hid rfl⟩
          have eK : Hid ((wr.alloc (.cells #[.int .i64 0, .int .i64 0, .int .i64 0, .int .i64 0, .int .i64 0, .int .i64 0, .int .i64 0, .int .i64 0, .int .i64 0, .bool false, .int .i64 0, .string ⟨#[]⟩, .string ⟨#[]⟩, .int .i64 0, .int .i64 0, .int .i64 0, .int .i64 0, .slice none 0 0, .slice none 0 0, .int .i64 0, .int .i64 0, .slice none 0 0, .slice none 0 0] 41)).setRow MB mc.toArray = wr.alloc (.cells mc.toArray 41)) := hid (by rw [hMB.out]; exact World.setRow_alloc_new _ _ _ _)
          have hKn : Hid ((wr.alloc (.cells #[.int .i64 0, .int .i64 0, .int .i64 0, .int .i64 0, .int .i64 0, .int .i64 0, .int .i64 0, .int .i64 0, .int .i64 0, .bool false, .int .i64 0, .string ⟨#[]⟩, .string ⟨#[]⟩, .int .i64 0, .int .i64 0, .int .i64 0, .int .i64 0, .slice none 0 0, .slice none 0 0, .int .i64 0, .int .i64 0, .slice none 0 0, .slice none 0 0] 41)).heap[MB]? = some (.cells #[.int .i64 0, .int .i64 0, .int .i64 0, .int .i64 0, .int .i64 0, .int .i64 0, .int .i64 0, .int .i64 0, .int .i64 0, .bool false, .int .i64 0, .string ⟨#[]⟩, .string ⟨#[]⟩, .int .i64 0, .int .i64 0, .int .i64 0, .int .i64 0, .slice none 0 0, .slice none 0 0, .int .i64 0, .int .i64 0, .slice none 0 0, .slice none 0 0] 41 (0, 0))) := hid (by rw [hMB.out]; exact heap_alloc_new _ _)
          have A2 := hid (A.out.addBlk mc 41)
          rw [← hMB.out] at A2
          obtain ⟨PM, hPM⟩ : ∃ PM, Hid (PM = mc.toArray) := ⟨_, hid rfl⟩
          rw [← hPM.out] at J41 O41 Z41 eK
          have HA2 : Hid (All (blkC MB mc 41 :: msC (.slice (some ⟨g, o, none⟩) LL cap) L :: (pxL P (x.tick n1 n2) cc.a6 cc.a5 (x.rq.now n1 cc.a5) (x.qu.now n2 cc.a5) ++ (blkC HB (List.map Value.bool hs2) 4 :: blkC G (rqM 0 t2 x1.rq).cells 41 :: blkC D cc.cells 23 :: [inC w]))) (wr.alloc (.cells PM 41))) := hid (by rw [hPM.out]; exact A2.out)
          clear hc iLt A2 A
          go_upto_region 25 with (first | (refine wpList_load_mid rfl 41 _ rfl g (o + i * 23) rfl mc _ RG.out Tryd.underlying41 rfl I41.out ?_) | (refine wpList_store_row rfl 41 _ _ rfl MB PM (by rw [hMB.out]; rfl) (by rw [hPM.out]; rfl) 41 _ hKn.out J41.out Z41.out O41.out ?_))
          rw [eK.out, ← hMB.out]
          generalize wr.alloc (.cells PM 41) = w11 at HA2 ⊢
          clear eK hKn RG hg
          by_cases hiR : i < R
          · have hmq : mm = rqM 0 i x1.rq := by have h1 := hLr.out i hiR; rw [hmm.out] at h1; exact Option.some.inj h1
            have hmin : min i R = i := by omega
            have hsub : i - R = 0 := by omega
            have HH2 : Hid (Heard hs2 wh (tm + (i + 1 - R)) N) := hid (by rw [show i + 1 - R = i - R by omega]; exact HH.out)
            have k0 : w11.cell? ⟨MB, 0, none⟩ = some (.int .i64 1) := by rw [cell_at HA2.out.1.2.1, hmc.out, hmq]; rfl
            have g2 : w11.cell? ⟨G, 2, none⟩ = some (.int .i64 t2) := by rw [cell_at (HA2.out.blk (g := G) (vs := (rqM 0 t2 x1.rq).cells) (t := 41) (by simp))]; rfl
            have gf : w11.frozen? ⟨G, 2, none⟩ = false := free_at (HA2.out.blk (g := G) (vs := (rqM 0 t2 x1.rq).cells) (t := 41) (by simp)) 2
            have A3 : Hid (All (blkC MB mc 41 :: msC (.slice (some ⟨g, o, none⟩) LL cap) L :: (pxL P (x.tick n1 n2) cc.a6 cc.a5 (x.rq.now n1 cc.a5) (x.qu.now n2 cc.a5) ++ (blkC HB (List.map Value.bool hs2) 4 :: blkC G (rqM 0 i x1.rq).cells 41 :: blkC D cc.cells 23 :: [inC w]))) (w11.setCell ⟨G, 2, none⟩ (.int .i64 (i : Int)))) := hid (by
              have h1 := HA2.out.perm (List.perm_middle (a := blkC G (rqM 0 t2 x1.rq).cells 41) (l₁ := blkC MB mc 41 :: msC (.slice (some ⟨g, o, none⟩) LL cap) L :: (pxL P (x.tick n1 n2) cc.a6 cc.a5 (x.rq.now n1 cc.a5) (x.qu.now n2 cc.a5) ++ [blkC HB (List.map Value.bool hs2) 4])))
              exact (h1.setBlk 2 (.int .i64 (i : Int))).perm (List.perm_middle (a := blkC G (rqM 0 i x1.rq).cells 41) (l₁ := blkC MB mc 41 :: msC (.slice (some ⟨g, o, none⟩) LL cap) L :: (pxL P (x.tick n1 n2) cc.a6 cc.a5 (x.rq.now n1 cc.a5) (x.qu.now n2 cc.a5) ++ [blkC HB (List.map Value.bool hs2) 4]))).symm)
            have C17 : Hid (∀ W : World, Calls Tryd.prog 17 #[.agg mc.toArray, .agg mc.toArray] W fun e w' => e = .returned (.bool true) ∧ Below W.heap.size W w') := hid (fun W => by rw [hmc.out, hmq]; exact sameMsg_rq 0 i x1.rq)
            have SG : Hid (∀ W, All (blkC MB mc 41 :: msC (.slice (some ⟨g, o, none⟩) LL cap) L :: (pxL P (x.tick n1 n2) cc.a6 cc.a5 (x.rq.now n1 cc.a5) (x.qu.now n2 cc.a5) ++ (blkC HB (List.map Value.bool hs2) 4 :: blkC G (rqM 0 i x1.rq).cells 41 :: blkC D cc.cells 23 :: [inC w]))) W → (fun W => W.rangeAt MB 0 mc ∧ W.rangeAt G 0 mc) W) := hid (fun W hW => ⟨fun j u hu => by rw [cell_at hW.1.2.1]; simpa using hu, fun j u hu => by
              rw [cell_at (hW.blk (g := G) (vs := (rqM 0 i x1.rq).cells) (t := 41) (by simp)), ← hmq, ← hmc.out]
              simpa using hu⟩)
            have hmq := hid hmq
            rw [hmin]
            clear hmin
            go_upto_region 31 with fail
            generalize w11.setCell ⟨G, 2, none⟩ (.int .i64 (i : Int)) = w12 at A3 ⊢
            clear k0 g2 gf HA2
            have A4 := hid A3.out.drew
            have p0 := hid (SG.out _ A4.out)
            refine wp_region_held_drew (S := (fun W => W.rangeAt MB 0 mc ∧ W.rangeAt G 0 mc)) (by kernel_rfl) p0.out (fun hHeld => ?_)
            refine wpAnyH_take (i := 0) (oi := { dst := some 135, op := Go.Op.load 41 (Go.Operand.tmp 24), type := 41, pos := "law.go:398", after := #[], guard := none }) (v := .agg mc.toArray) rfl (by kernel_rfl) (by kernel_rfl) (by kernel_rfl) (fun _ _ _ h => h) (yieldsIf_load_mid (by rfl) 41 (.tmp 24) rfl MB 0 rfl mc _ (fun W hW => hW.1) Tryd.underlying41 rfl I41.out) hHeld ?_
            (try simp only [Act.put, List.setIfInBounds_toArray, List.set_cons_zero, List.set_cons_succ])
            refine wpAnyH_take (i := 1) (oi := { dst := some 136, op := Go.Op.move (Go.Operand.tmp 13), type := 49, pos := "law.go:398", after := #[], guard := none }) (v := ?_) rfl (by kernel_rfl) (by kernel_rfl) (by kernel_rfl) (fun _ _ _ h => h) (Or.inl ⟨by rfl, ?_⟩) hHeld ?_
            rotate_left
            · intro W hSw
              (try dsimp only at hSw)
              go_simp
              (try with_reducible rfl)
            (try simp only [Act.put, List.setIfInBounds_toArray, List.set_cons_zero, List.set_cons_succ])
            refine wpAnyH_take (i := 2) (oi := { dst := some 137, op := Go.Op.indexAddr 49 (Go.Operand.tmp 136) (Go.Operand.const (Go.Value.int Go.IntKind.i64 0)), type := 0, pos := "law.go:398", after := #[{ on := 1, ground := Go.Ground.data }], guard := none }) (v := ?_) rfl (by kernel_rfl) (by kernel_rfl) (by kernel_rfl) (fun _ _ _ h => h) (Or.inl ⟨by rfl, ?_⟩) hHeld ?_
            rotate_left
            · intro W hSw
              (try dsimp only at hSw)
              go_simp
              (try with_reducible rfl)
            (try simp only [Act.put, List.setIfInBounds_toArray, List.set_cons_zero, List.set_cons_succ])
            refine wpAnyH_take (i := 3) (oi := { dst := some 138, op := Go.Op.load 41 (Go.Operand.tmp 137), type := 41, pos := "law.go:398", after := #[{ on := 2, ground := Go.Ground.data }], guard := none }) (v := .agg mc.toArray) rfl (by kernel_rfl) (by kernel_rfl) (by kernel_rfl) (fun _ _ _ h => h) (yieldsIf_load_mid (by rfl) 41 (.tmp 137) rfl G 0 rfl mc _ (fun W hW => hW.2) Tryd.underlying41 rfl I41.out) hHeld ?_
            (try simp only [Act.put, List.setIfInBounds_toArray, List.set_cons_zero, List.set_cons_succ])
            refine wpAnyH_ready (rs := [4]) (by kernel_rfl) (by simp) ?_
            refine AllReadyH.cons (o := { dst := some 139, op := Go.Op.call { callee := Go.Callee.value (Go.Operand.func 17), args := #[Go.Operand.tmp 135, Go.Operand.tmp 138], argTypes := #[41, 41] }, type := 4, pos := "law.go:398", after := #[{ on := 0, ground := Go.Ground.data }, { on := 3, ground := Go.Ground.data }], guard := none }) rfl (fun K hK => ?_) AllReadyH.nil
            go_simp
            refine (C17.out _).mono ?_; rintro e w13 ⟨rfl, BB⟩; have A5 := hid (A4.out.later BB); have p1 := hid (SG.out _ A5.out); clear BB
            refine hK.out _ _ p1.out (fun hHeld => ?_)
            clear hK K
            (try simp only [Act.put, List.setIfInBounds_toArray, List.set_cons_zero, List.set_cons_succ])
            refine wpAnyH_take (i := 5) (oi := { dst := some 25, op := Go.Op.assign (Go.Operand.tmp 139), type := 4, pos := "law.go:398", after := #[{ on := 4, ground := Go.Ground.data }, { on := 4, ground := Go.Ground.chain }, { on := 0, ground := Go.Ground.phase }, { on := 1, ground := Go.Ground.phase }, { on := 2, ground := Go.Ground.phase }, { on := 3, ground := Go.Ground.phase }, { on := 4, ground := Go.Ground.phase }], guard := none }) (v := ?_) rfl (by kernel_rfl) (by kernel_rfl) (by kernel_rfl) (fun _ _ _ h => h) (Or.inl ⟨by rfl, ?_⟩) hHeld ?_
            rotate_left
            · intro W hSw
              (try dsimp only at hSw)
              go_simp
              (try with_reducible rfl)
            (try simp only [Act.put, List.setIfInBounds_toArray, List.set_cons_zero, List.set_cons_succ])
            refine wpAnyH_done (by kernel_rfl) ?_ _
            clear hHeld
            clear p0 p1 SG C17 A4 A3
            go_wp2
            go_roundw
            case rel => exact ⟨i + 1, hs2, i, by omega, by go_num, by rw [show min (i + 1) R = i + 1 by omega]; go_num, by rw [show tm + (i + 1 - R) = tm by omega], HH2, hid A5.out.tail⟩
            case measure => simp [intOf]; omega
          · have hb1 : Hid (bq x = 1) := hid (by have h1 := hLL.out; have h2 := hLl.out; have h3 := hbq.out; omega)
            have hie : i = R := by have h1 := hLL.out; have h2 := hLl.out; have h3 := hb1.out; omega
            obtain ⟨qn, hqn⟩ : ∃ qn : Nat, Hid ((qn : Int) = (wh + (tm : Int)).tmod (N : Int)) := ⟨((wh + (tm : Int)).tmod (N : Int)).toNat, hid (by have := Int.tmod_nonneg (N : Int) (show 0 ≤ wh + (tm : Int) by have := hwv.out.1; omega); omega)⟩
            have hqN : qn < N := by have := Int.tmod_lt_of_pos (wh + (tm : Int)) (show 0 < (N : Int) by have := hN7.out; omega); have := hqn.out; omega
            have hmq : mm = asM 0 (qn : Int) x.least x.qu := by have h1 := hLq.out hb1.out; rw [← hie, hmm.out] at h1; rw [hqn.out]; exact Option.some.inj h1
            have hmin : min i R = R := by omega
            have hsub : tm + (i - R) = tm := by omega
            have hHl : Hid (hs2.length = N) := hid HH.out.1
            obtain ⟨b, hb⟩ : ∃ b, Hid (hs2[qn]? = some b) := ⟨_, hid (List.getElem?_eq_getElem (by rw [hHl.out]; exact hqN))⟩
            have HH2 : Hid (Heard (hs2.set qn true) wh (tm + 1) N) := hid (by
              have h1 := HH.out
              rw [hsub] at h1
              have h2 := h1.set hwv.out.1 hN7.out.1
              rw [← hqn.out] at h2
              simpa using h2)
            have k0 : w11.cell? ⟨MB, 0, none⟩ = some (.int .i64 14) := by rw [cell_at HA2.out.1.2.1, hmc.out, hmq]; rfl
            have k2 : w11.cell? ⟨MB, 2, none⟩ = some (.int .i64 (qn : Int)) := by rw [cell_at HA2.out.1.2.1, hmc.out, hmq]; rfl
            have k8 : w11.cell? ⟨MB, 8, none⟩ = some (.int .i64 1) := by
              rw [cell_at HA2.out.1.2.1, hmc.out, hmq]
              show some (Value.int .i64 x.qu.num) = _
              rw [IV.out.qn]
            obtain ⟨d0, d5⟩ := D0.out _ _ HA2.out (by simp)
            have hq2 : w11.cell? ⟨HB, qn, none⟩ = some (.bool b) := by
              rw [cell_at (HA2.out.blk (g := HB) (vs := List.map Value.bool hs2) (t := 4) (by simp)), List.getElem?_toArray, List.getElem?_map, hb.out]; rfl
            have gf : w11.frozen? ⟨HB, qn, none⟩ = false := free_at (HA2.out.blk (g := HB) (vs := List.map Value.bool hs2) (t := 4) (by simp)) qn
            have A3 : Hid (All (blkC MB mc 41 :: msC (.slice (some ⟨g, o, none⟩) LL cap) L :: (pxL P (x.tick n1 n2) cc.a6 cc.a5 (x.rq.now n1 cc.a5) (x.qu.now n2 cc.a5) ++ (blkC HB (List.map Value.bool (hs2.set qn true)) 4 :: blkC G (rqM 0 t2 x1.rq).cells 41 :: blkC D cc.cells 23 :: [inC w]))) (w11.setCell ⟨HB, qn, none⟩ (.bool true))) := hid (by
              have h1 := HA2.out.perm (List.perm_middle (a := blkC HB (List.map Value.bool hs2) 4) (l₁ := blkC MB mc 41 :: msC (.slice (some ⟨g, o, none⟩) LL cap) L :: (pxL P (x.tick n1 n2) cc.a6 cc.a5 (x.rq.now n1 cc.a5) (x.qu.now n2 cc.a5))))
              have h2 := h1.setBlk qn (.bool true)
              rw [← List.map_set] at h2
              exact h2.perm (List.perm_middle (a := blkC HB (List.map Value.bool (hs2.set qn true)) 4) (l₁ := blkC MB mc 41 :: msC (.slice (some ⟨g, o, none⟩) LL cap) L :: (pxL P (x.tick n1 n2) cc.a6 cc.a5 (x.rq.now n1 cc.a5) (x.qu.now n2 cc.a5)))).symm)
            have z1 : decide ((qn : Int) < 0) = false := by simp
            have z2 : decide ((N : Int) ≤ (qn : Int)) = false := by simp; omega
            have z2b : decide (N ≤ qn) = false := by simp; omega
            have z3 : decide ((qn : Int) < (N : Int)) = true := by simpa using hqN
            have hTb2 : T ≤ 20480 := hTb.out
            have hN7b : N ≤ 7 := hN7.out.2
            have hmq := hid hmq
            have hz0 : ((i - R : Nat) : Int) = 0 := by omega
            rw [hmin, hz0, Int.add_zero]
            clear hmin hie hz0
            go_wp2
            generalize w11.setCell ⟨HB, qn, none⟩ (.bool true) = w12 at A3 ⊢
            go_wp2
            go_roundw
            case rel => exact ⟨i + 1, hs2.set qn true, t2, by omega, by go_num, by rw [show min (i + 1) R = R by omega], by rw [show tm + (i + 1 - R) = tm + 1 by omega]; go_num, by rw [show tm + (i + 1 - R) = tm + 1 by omega]; exact HH2, hid A3.out.tail⟩
            case measure => simp [intOf]; omega
        · have hi : i = LL := by omega
          have hsub : tm + (i - R) = tm + bq x := by rw [hi, hLL.out, hLl.out]; omega
          have hmin : min i R = R := by rw [hi, hLL.out, hLl.out]; omega
          have HH2 : Hid (Heard hs2 wh (tm + bq x) N) := hid (by rw [← hsub]; exact HH.out)
          have el2 : decide ((i : Int) < (LL : Int)) = false := by simp; omega
          have el3 : decide (i < LL) = false := by simp; omega
          obtain ⟨d0, d5⟩ := D0.out _ _ A.out (by simp)
          have eq2 : decide (cc.a5 < quiet + 1) = false := by have := qs.out.2; simp; omega
          obtain ⟨tn, htn⟩ : ∃ tn : Nat, Hid (tn = tm + bq x) := ⟨_, hid rfl⟩
          rw [hsub, hmin, ← htn.out]
          rw [← htn.out] at HH2
          have qst := qs.out.1
          rw [← htn.out] at qst
          have hTb2 : T ≤ 20480 := hTb.out
          have htn2 : tn ≤ t + 1 := by rw [htn.out]; have := hbq.out; omega
          clear hsub hmin hi
          rcases hRN.out with hRe | hRe
          · have hdue : x.rq.due = true := by
              have h1 := hR.out
              cases hh : x.rq.due with
              | true => rfl
              | false => rw [hh] at h1; simp at h1; have := hN7.out; omega
            rw [hdue] at qst
            have qst := hid qst
            rw [hRe]
            have z1 : ((N : Int) != 0) = true := by have := hN7.out; simp; omega
            have z2 : ((N : Int) != (N : Int)) = false := by simp
            have z3 : ((N : Int) == (N : Int)) = true := by simp
            have htm := hid htm
            clear hRe hdue
            go_wp2
            go_roundw
            case rel => exact ⟨t + 1, tn, 0, x.tick n1 n2, _, _, hs2, t2, by go_num, rfl, rfl, by omega, htn2, qst, HH2, hid A.out.tail⟩
            case measure => simp [intOf]; omega
          · have hdue : x.rq.due = false := by
              have h1 := hR.out
              cases hh : x.rq.due with
              | false => rfl
              | true => rw [hh] at h1; simp at h1; have := hN7.out; omega
            rw [hdue] at qst
            have qst := hid qst
            rw [hRe]
            have z1 : ((0 : Int) == (N : Int)) = false := by have := hN7.out; simp; omega
            have z4 : decide (N = 0) = false := by have := hN7.out; simp; omega
            clear hRe hdue
            go_wp2
            go_roundw
            case rel => exact ⟨t + 1, tn, quiet + 1, x.tick n1 n2, _, _, hs2, t2, by go_num, rfl, rfl, by omega, htn2, qst, HH2, hid A.out.tail⟩
            case measure => simp [intOf]; omega
    · have el : decide ((t : Int) < (T : Int)) = false := by simp; omega
      have B1 := hid (A.out.into (w0 := w) (by simp))
      have hcells : Hid (∀ i : Nat, i < N → N < tm → wr.cell? ⟨HB, i, none⟩ = some (.bool true)) := hid (fun i hi ht => by
        rw [cell_at (A.out.blk (g := HB) (vs := List.map Value.bool hs) (t := 4) (by simp))]
        simp [HH.out.all hwv.out.1 hwv.out.2 (by omega) i hi])
      go_wp2_with (go_at_call 13; refine (C13.out _).mono ?_; rintro e w' ⟨rfl, hw'⟩; subst w')
      go_loopw [26] (fun iv wr2 => ∃ i : Nat, i ≤ N ∧ iv = .int .i64 (i : Int) ∧ wr2 = wr) (fun iv _ => N - (intOf iv).toNat)
      case atStart => exact ⟨0, Nat.zero_le _, rfl, rfl⟩
      case round =>
        obtain ⟨i, hiN, rfl, rfl⟩ := hrel
        have hN7b : N ≤ 7 := hN7.out.2
        by_cases h1 : i < N
        · have z1 : decide ((i : Int) < (N : Int)) = true := by simpa using h1
          by_cases h2 : N < tm
          · have z2 : decide ((N : Int) < (tm : Int)) = true := by simpa using h2
            have ci := hcells.out i h1 h2
            go_wp2
            go_roundw
            case rel => first | exact ⟨i + 1, by omega, by go_num, rfl⟩ | exact ⟨i + 1, by omega, by go_num, trivial⟩
            case measure => simp [intOf]; omega
          · have z2 : decide ((N : Int) < (tm : Int)) = false := by simp; omega
            go_wp2
            go_ret
            exact ⟨rfl, B1.out⟩
        · have z1 : decide ((i : Int) < (N : Int)) = false := by simp; omega
          go_wp2
          go_ret
          exact ⟨rfl, B1.out⟩
end Go.Proofs.YteloaggebkbeeaaDoor

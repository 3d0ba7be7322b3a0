import Derived.Test.YtkcepkehgkkkbabDoorTrimS
import Derived.Test.YtkcepkehgkkkbabDoorTClone
import Derived.Test.YtkcepkehgkkkbabDoorNames
namespace Go.Proofs.YtkcepkehgkkkbabDoor
open Go.RowKit
set_option linter.unusedVariables false

set_option maxHeartbeats 1600000 in
set_option maxRecDepth 1000000 in
theorem list_any {P : Nat} {qs : List Qv} {cs : List Comp} {w : World} (h : All (blkC P (flat qs) 56 :: cs) w) (h8 : qs.length = 8) (at' k : Int) (nm tx : ByteArray) (n m : Int) :
    Calls Tryd.prog 42 #[.pointer (some ⟨P, 0, none⟩), .int .i64 at', opV k nm tx n m] w fun e w' => ∃ so sc, e = .returned (.tuple #[resV 0 0 (.slice so (nmsS qs).length sc), .int .i64 (-1)]) ∧ All (blkC P (flat qs) 56 :: ownC 9 (.slice so (nmsS qs).length sc) (txtV (nmsS qs)) :: cs) w' := by
  have hsz : (w.alloc (opB k nm tx n m)).heap.size = w.heap.size + 1 := by simp
  have H1 := hid (((h.alloc (opB k nm tx n m)).addBlk [.int .i64 0, .int .i64 0, .slice none 0 0] 30))
  rw [hsz] at H1
  clear hsz
  clear h
  go_enter Tryd.func42, Tryd.ntmps42
  go_wp2_with fail
  refine (names_any H1.out.swap h8).mono ?_
  rintro e w1 ⟨so, sc, rfl, A1⟩
  generalize hN : (nmsS qs).length = N at A1 ⊢
  have H2 := hid (A1.perm (ds := blkC (w.heap.size + 1) [.int .i64 0, .int .i64 0, .slice none 0 0] 30 :: blkC P (flat qs) 56 :: ownC 9 (.slice so N sc) (txtV (nmsS qs)) :: cs) ((List.perm_middle (l₁ := [ownC 9 (.slice so N sc) (txtV (nmsS qs)), blkC P (flat qs) 56])).trans (List.Perm.cons _ (List.Perm.swap _ _ _))))
  have HN := hid hN
  clear A1 H1 hN
  have r0 := H2.out.r0
  have r1 := H2.out.r1
  have r2 := H2.out.r2
  have g0 := H2.out.rf 0
  have g1 := H2.out.rf 1
  have g2 := H2.out.rf 2
  have AE := hid (H2.out.setR (.int .i64 0) (.int .i64 0) (.slice so N sc))
  clear H2 
  go_wp2
  generalize (((w1.setCell ⟨w.heap.size + 1, 0, none⟩ (.int .i64 0)).setCell ⟨w.heap.size + 1, 1, none⟩ (.int .i64 0)).setCell ⟨w.heap.size + 1, 2, none⟩ (.slice so N sc)) = we at AE ⊢
  clear r0 r1 r2
  have r0 := AE.out.r0
  have r1 := AE.out.r1
  have r2 := AE.out.r2
  refine bodyPost_ret (v := .tuple #[resV 0 0 (.slice so N sc), .int .i64 (-1)]) (by rw [results_cell_tmp (fn := Tryd.f42) (p := 6) (u := 7) (ty := 30) rfl]; go_simp) rfl ?_
  exact ⟨so, sc, by rw [HN.out], by rw [HN.out]; exact AE.out.tail⟩


set_option maxHeartbeats 1600000 in
set_option maxRecDepth 1000000 in
theorem read_none {P b nb : Nat} {qs : List Qv} {cs : List Comp} {w : World} {i : Nat} {nm0 : ByteArray} {first : Int} {iv : Value} {gv : Value} {items : List ByteArray} (h : All (blkC P (flat qs) 56 :: ownC 9 iv (txtV items) :: cs) w) (h8 : qs.length = 8) (hq : qs[i]? = some ⟨nm0, first, iv, gv⟩) (hl : items.length ≤ 32) (hf0 : 0 ≤ first) (hf1 : first + items.length ≤ 1099511627776) (k : Int) (nm tx : ByteArray) (n m : Int) (hn0 : 0 ≤ n) (hn1 : n ≤ 1099511627776) (hge : first + items.length ≤ max n first) :
    Calls Tryd.prog 40 #[.pointer (some ⟨P, 0, none⟩), .int .i64 i, opV k nm tx n m] w fun e w' => e = .returned (.tuple #[resV 0 n (.slice none 0 0), .int .i64 (-1)]) ∧ All (blkC P (flat qs) 56 :: ownC 9 iv (txtV items) :: cs) w' := by
  have hi8 : i < 8 := by have := (List.getElem?_eq_some_iff.1 hq).1; omega
  obtain ⟨ao, c, eo⟩ := owns_form (h.2.2.1.2.1 : w.ownsRow 0 9 1 iv (txtV items).length (txtV items))
  rw [txtV_length] at eo
  subst eo
  have hsz : (w.alloc (opB k nm tx n m)).heap.size = w.heap.size + 1 := by simp
  have H1 := hid (((h.alloc (opB k nm tx n m)).addBlk [.int .i64 0, .int .i64 0, .slice none 0 0] 30))
  rw [hsz] at H1
  clear hsz
  have HO := heap_alloc_new w (opB k nm tx n m)
  have o3 : ((w.alloc (opB k nm tx n m)).alloc (.cells [Value.int .i64 0, .int .i64 0, .slice none 0 0].toArray 30)).cell? ⟨w.heap.size, 3, none⟩ = some (.int .i64 n) := cell_under (ba _ _) (by simp) (by rw [cell_at HO]; rfl)
  have o4 : ((w.alloc (opB k nm tx n m)).alloc (.cells [Value.int .i64 0, .int .i64 0, .slice none 0 0].toArray 30)).cell? ⟨w.heap.size, 4, none⟩ = some (.int .i64 m) := cell_under (ba _ _) (by simp) (by rw [cell_at HO]; rfl)
  have HQ := hid hq
  have i1 : (0 : Int) ≤ (i : Int) := by omega
  have i2 : (i : Int) < 8 := by omega
  have i3 : ¬ (i : Int) < 0 := by omega
  obtain ⟨idx, hidx⟩ : ∃ idx : Int, Hid (max n first = idx) := ⟨_, hid rfl⟩
  have hge2 : first + (items.length : Int) ≤ idx := by rw [← hidx.out]; exact hge
  clear hge
  clear h hq HO
  generalize hW : (w.alloc (opB k nm tx n m)).alloc (.cells [Value.int .i64 0, .int .i64 0, .slice none 0 0].toArray 30) = w1 at H1 o3 o4
  have s1 : w1.cell? ⟨P, i * 4 + 1, none⟩ = some (.int .i64 first) := H1.out.q1 mem2 HQ.out
  have s1d : w1.drew.cell? ⟨P, i * 4 + 1, none⟩ = some (.int .i64 first) := s1
  have o3d : w1.drew.cell? ⟨w.heap.size, 3, none⟩ = some (.int .i64 n) := o3
  go_enter Tryd.func40, Tryd.ntmps40
  go_wp2
  go_region
  have H2 := hid H1.out.drew
  have p3 := hid (show w1.drew.cell? ⟨w.heap.size, 3, none⟩ = some (.int .i64 n) from o3)
  have p4 := hid (show w1.drew.cell? ⟨w.heap.size, 4, none⟩ = some (.int .i64 m) from o4)
  clear H1 o3 o4 s1 s1d o3d hW
  generalize w1.drew = w2 at H2 p3 p4 ⊢
  rw [hidx.out]
  go_wp2_with fail
  refine (end_q (i := i) (P := P) (H2.out.q1 mem2 HQ.out) (H2.out.q2 mem2 HQ.out) hf0 (by simp only; omega)).mono ?_
  rintro e w3 ⟨rfl, nq, hw⟩
  have H3 := hid (show All (blkC (w.heap.size + 1) [.int .i64 0, .int .i64 0, .slice none 0 0] 30 :: blkC P (flat qs) 56 :: ownC 9 (.slice ao items.length c) (txtV items) :: cs) w3 from by rw [hw]; exact H2.out.drewN nq)
  have o3 : w3.cell? ⟨w.heap.size, 3, none⟩ = some (.int .i64 n) := by rw [hw]; exact p3.out
  have o4 : w3.cell? ⟨w.heap.size, 4, none⟩ = some (.int .i64 m) := by rw [hw]; exact p4.out
  simp only
  clear hw H2 p3 p4
  have eg : decide (first + (items.length : Int) ≤ idx) = true := by simpa using hge2
  have r0 := H3.out.r0
  have r1 := H3.out.r1
  have r2 := H3.out.r2
  have g0 := H3.out.rf 0
  have g1 := H3.out.rf 1
  have g2 := H3.out.rf 2
  have AE := hid (H3.out.setR (.int .i64 0) (.int .i64 n) (.slice none 0 0))
  clear H3 
  go_wp2
  generalize (((w3.setCell ⟨w.heap.size + 1, 0, none⟩ (.int .i64 0)).setCell ⟨w.heap.size + 1, 1, none⟩ (.int .i64 n)).setCell ⟨w.heap.size + 1, 2, none⟩ (.slice none 0 0)) = we at AE ⊢
  clear r0 r1 r2
  have r0 := AE.out.r0
  have r1 := AE.out.r1
  have r2 := AE.out.r2
  refine bodyPost_ret (v := .tuple #[resV 0 n (.slice none 0 0), .int .i64 (-1)]) (by rw [results_cell_tmp (fn := Tryd.f40) (p := 6) (u := 7) (ty := 30) rfl]; go_simp) rfl ?_
  exact ⟨rfl, AE.out.tail⟩

set_option maxHeartbeats 3200000 in
set_option maxRecDepth 1000000 in
theorem read_some {P b nb : Nat} {qs : List Qv} {cs : List Comp} {w : World} {i : Nat} {nm0 : ByteArray} {first : Int} {iv : Value} {gv : Value} {items : List ByteArray} (h : All (blkC P (flat qs) 56 :: ownC 9 iv (txtV items) :: cs) w) (h8 : qs.length = 8) (hq : qs[i]? = some ⟨nm0, first, iv, gv⟩) (hl : items.length ≤ 32) (hf0 : 0 ≤ first) (hf1 : first + items.length ≤ 1099511627776) (k : Int) (nm tx : ByteArray) (n m : Int) (hn0 : 0 ≤ n) (hn1 : n ≤ 1099511627776) (hm0 : 1 ≤ m) (hm1 : m ≤ 8) {d : Nat} (hd : max n first = first + (d : Int)) (hdl : d < items.length) :
    Calls Tryd.prog 40 #[.pointer (some ⟨P, 0, none⟩), .int .i64 i, opV k nm tx n m] w fun e w' => ∃ so sc, e = .returned (.tuple #[resV 0 (first + (d : Int)) (.slice so ((items.drop d).take m.toNat).length sc), .int .i64 (-1)]) ∧ All (blkC P (flat qs) 56 :: ownC 9 iv (txtV items) :: ownC 9 (.slice so ((items.drop d).take m.toNat).length sc) (txtV ((items.drop d).take m.toNat)) :: cs) w' := by
  have hi8 : i < 8 := by have := (List.getElem?_eq_some_iff.1 hq).1; omega
  obtain ⟨ao, c, eo⟩ := owns_form (h.2.2.1.2.1 : w.ownsRow 0 9 1 iv (txtV items).length (txtV items))
  rw [txtV_length] at eo
  subst eo
  have hsz : (w.alloc (opB k nm tx n m)).heap.size = w.heap.size + 1 := by simp
  have H1 := hid (((h.alloc (opB k nm tx n m)).addBlk [.int .i64 0, .int .i64 0, .slice none 0 0] 30))
  rw [hsz] at H1
  clear hsz
  have HO := heap_alloc_new w (opB k nm tx n m)
  have o3 : ((w.alloc (opB k nm tx n m)).alloc (.cells [Value.int .i64 0, .int .i64 0, .slice none 0 0].toArray 30)).cell? ⟨w.heap.size, 3, none⟩ = some (.int .i64 n) := cell_under (ba _ _) (by simp) (by rw [cell_at HO]; rfl)
  have o4 : ((w.alloc (opB k nm tx n m)).alloc (.cells [Value.int .i64 0, .int .i64 0, .slice none 0 0].toArray 30)).cell? ⟨w.heap.size, 4, none⟩ = some (.int .i64 m) := cell_under (ba _ _) (by simp) (by rw [cell_at HO]; rfl)
  have HQ := hid hq
  have i1 : (0 : Int) ≤ (i : Int) := by omega
  have i2 : (i : Int) < 8 := by omega
  have i3 : ¬ (i : Int) < 0 := by omega
  obtain ⟨idx, hidx⟩ : ∃ idx : Int, Hid (max n first = idx) := ⟨_, hid rfl⟩
  have HID := hid (show idx = first + (d : Int) from by rw [← hidx.out]; exact hd)
  clear hd
  clear h hq HO
  generalize hW : (w.alloc (opB k nm tx n m)).alloc (.cells [Value.int .i64 0, .int .i64 0, .slice none 0 0].toArray 30) = w1 at H1 o3 o4
  have s1 : w1.cell? ⟨P, i * 4 + 1, none⟩ = some (.int .i64 first) := H1.out.q1 mem2 HQ.out
  have s1d : w1.drew.cell? ⟨P, i * 4 + 1, none⟩ = some (.int .i64 first) := s1
  have o3d : w1.drew.cell? ⟨w.heap.size, 3, none⟩ = some (.int .i64 n) := o3
  go_enter Tryd.func40, Tryd.ntmps40
  go_wp2
  go_region
  have H2 := hid H1.out.drew
  have p3 := hid (show w1.drew.cell? ⟨w.heap.size, 3, none⟩ = some (.int .i64 n) from o3)
  have p4 := hid (show w1.drew.cell? ⟨w.heap.size, 4, none⟩ = some (.int .i64 m) from o4)
  clear H1 o3 o4 s1 s1d o3d hW
  generalize w1.drew = w2 at H2 p3 p4 ⊢
  rw [hidx.out]
  go_wp2_with fail
  refine (end_q (i := i) (P := P) (H2.out.q1 mem2 HQ.out) (H2.out.q2 mem2 HQ.out) hf0 (by simp only; omega)).mono ?_
  rintro e w3 ⟨rfl, nq, hw⟩
  have H3 := hid (show All (blkC (w.heap.size + 1) [.int .i64 0, .int .i64 0, .slice none 0 0] 30 :: blkC P (flat qs) 56 :: ownC 9 (.slice ao items.length c) (txtV items) :: cs) w3 from by rw [hw]; exact H2.out.drewN nq)
  have o3 : w3.cell? ⟨w.heap.size, 3, none⟩ = some (.int .i64 n) := by rw [hw]; exact p3.out
  have o4 : w3.cell? ⟨w.heap.size, 4, none⟩ = some (.int .i64 m) := by rw [hw]; exact p4.out
  simp only
  clear hw H2 p3 p4
  have eg : decide (first + (items.length : Int) ≤ idx) = false := by have := HID.out; simp; omega
  have hrow := (H3.out.2.2.2.2.1.2.1 : w3.ownsRow 0 9 1 (.slice ao items.length c) (txtV items).length (txtV items))
  have hlc := owns_len hrow
  rw [txtV_length] at hlc
  obtain ⟨g, ea, _, _⟩ := owns_at hrow (k := 0) (u := .string items[0]) (by simp)
  subst ea
  have s2 : w3.cell? ⟨P, i * 4 + 2, none⟩ = some (.slice (some ⟨g, 0, none⟩) items.length c) := H3.out.q2 mem2 HQ.out
  have s1 : w3.cell? ⟨P, i * 4 + 1, none⟩ = some (.int .i64 first) := H3.out.q1 mem2 HQ.out
  have s2d : w3.drew.cell? ⟨P, i * 4 + 2, none⟩ = some (.slice (some ⟨g, 0, none⟩) items.length c) := s2
  have s1d : w3.drew.cell? ⟨P, i * 4 + 1, none⟩ = some (.int .i64 first) := s1
  obtain ⟨L, hL⟩ : ∃ L, Hid (L = items.length - d) := ⟨_, hid rfl⟩
  obtain ⟨C, hC⟩ : ∃ C, Hid (C = c - d) := ⟨_, hid rfl⟩
  obtain ⟨kk, hkk⟩ : ∃ kk, Hid (kk = ((items.drop d).take m.toNat).length) := ⟨_, hid rfl⟩
  have hcut : ∀ W : World, (Instr.slice 28 (.slice (some ⟨g, 0, none⟩) items.length c) (some (.int .i64 (IntKind.i64.wrap (idx - first)))) none none).run Tryd.prog W = .ok (.slice (some ⟨g, d, none⟩) L C) W := by
    intro W
    have e1 : IntKind.i64.wrap (idx - first) = (d : Int) := by rw [HID.out]; simp [IntKind.wrap, IntKind.bits, IntKind.signed]; omega
    rw [e1, run_slice_l W 28 (some ⟨g, 0, none⟩) items.length c (by kernel_rfl) .i64 (d : Int) (by omega) (by omega)]
    have hs : (sizeOf (Tryd.prog.elem 28)).run Tryd.prog W = .ok 1 W := by kernel_rfl
    rw [hs, hL.out, hC.out]
    simp [sliced, Result.andThen, Addr.add_lit]
    omega
  have hkl : kk ≤ L ∧ min m (L : Int) = (kk : Int) := by
    rw [hkk.out, hL.out, List.length_take, List.length_drop]
    omega
  have hcut2 : ∀ W : World, (Instr.slice 28 (.slice (some ⟨g, d, none⟩) L C) none (some (.int .i64 (kk : Int))) none).run Tryd.prog W = .ok (.slice (some ⟨g, d, none⟩) kk C) W := by
    intro W
    have hC1 := hC.out
    have hL1 := hL.out
    rw [run_slice_h W 28 (some ⟨g, d, none⟩) L C (by kernel_rfl) .i64 (kk : Int) (by omega) (by omega)]
    have hs : (sizeOf (Tryd.prog.elem 28)).run Tryd.prog W = .ok 1 W := by kernel_rfl
    rw [hs]
    simp [sliced, Result.andThen, Addr.add_lit]
  have hmin := hkl.2
  have o4d : w3.drew.cell? ⟨w.heap.size, 4, none⟩ = some (.int .i64 m) := o4
  have H4 := hid H3.out.drew
  have TX := hid (show Txts w3.drew (.slice (some ⟨g, d, none⟩) kk C) ((items.drop d).take m.toNat) from by
    refine ⟨_, C, by rw [← hkk.out], by rw [← hkk.out]; have := hC.out; have := hL.out; have := hkl.1; omega, Or.inr ⟨g, d, rfl, ?_, fun j hj => ?_⟩⟩
    · exact H3.out.2.2.2.2.1.2.2 g (by simp [ownC, Value.ownBlock])
    · obtain ⟨g', ea', hc', _⟩ := owns_at hrow (k := d + j) (u := .string ((items.drop d).take m.toNat)[j]) (by
        have hj' : d + j < items.length := by rw [List.length_take, List.length_drop] at hj; omega
        simp [hj'])
      cases ea'
      exact hc')
  clear hrow hkl H3
  go_wp2
  go_region
  all_goals (
    clear s1 s2 s1d s2d o3 o4 hcut
    generalize w3.drew = w4 at H4 o4d TX ⊢
    go_wp2_with fail
    refine (tclone_any TX.out (by rw [← hkk.out]; have := hkk.out; rw [List.length_take, List.length_drop] at this; omega)).mono ?_
    rintro e w5 ⟨s', rfl, h5, B5⟩
    rw [← hkk.out] at h5
    obtain ⟨so, sc, hs5⟩ := owns_form h5
    subst hs5
    have A5 := hid ((H4.out.addOwn (l := txtV ((items.drop d).take m.toNat)) B5 (by rw [txtV_length, ← hkk.out]; exact h5)).swap)
    clear h5 B5 TX H4 hcut2 o4d
    have r0 := A5.out.r0
    have r1 := A5.out.r1
    have r2 := A5.out.r2
    have g0 := A5.out.rf 0
    have g1 := A5.out.rf 1
    have g2 := A5.out.rf 2
    have AE := hid (A5.out.setR (.int .i64 0) (.int .i64 idx) (.slice so kk sc))
    clear A5 
    go_wp2
    generalize (((w5.setCell ⟨w.heap.size + 1, 0, none⟩ (.int .i64 0)).setCell ⟨w.heap.size + 1, 1, none⟩ (.int .i64 idx)).setCell ⟨w.heap.size + 1, 2, none⟩ (.slice so kk sc)) = we at AE ⊢
    clear r0 r1 r2
    have r0 := AE.out.r0
    have r1 := AE.out.r1
    have r2 := AE.out.r2
    refine bodyPost_ret (v := .tuple #[resV 0 idx (.slice so kk sc), .int .i64 (-1)]) (by rw [results_cell_tmp (fn := Tryd.f40) (p := 6) (u := 7) (ty := 30) rfl]; go_simp) rfl ?_
    rw [← hkk.out, ← HID.out]
    refine ⟨so, sc, rfl, ?_⟩
    exact AE.out.tail.perm (List.Perm.trans (List.Perm.swap _ _ _) (List.Perm.cons _ (List.Perm.swap _ _ _))))
end Go.Proofs.YtkcepkehgkkkbabDoor

import Derived.Test.YtphcfkfdkaphbaaTAm
namespace Go.Proofs.Ytphcfkfdkaphbaa
open Go.RowKit
set_option linter.unusedVariables false

set_option maxHeartbeats 1600000 in
set_option maxRecDepth 1000000 in
theorem act_1 {D i : Nat} {va vb vm : Value} {T : List Tq} {M : List Mk} {cs : List Comp} {w : World} {x : Ac} (hA : All (deskL D va vb vm T M ++ cs) w) (hF : DF T M i) (hs : x.name.size ≤ maxLen) (hi : i ≤ 2932031007400) (hm : amN x.kind 6 = 1) : Calls Try.prog 12 #[.pointer (some ⟨D, 0, none⟩), .agg x.cells.toArray, .int .i64 (i : Int)] w fun e w' => e = .returned (.bool true) ∧ DeskI D T.length (i + 1) cs w' := by
  obtain ⟨kd, lg, nm, nu, tk⟩ := x
  have hk : amN lg T.length < T.length := amN_lt _ hF.one
  obtain ⟨k, hk0⟩ : ∃ k, amN lg T.length = k := ⟨_, rfl⟩
  rw [hk0] at hk
  obtain ⟨t, hT⟩ : ∃ t, Hid (T[k]? = some t) := ⟨_, hid (List.getElem?_eq_getElem hk)⟩
  have hok := hid (hF.ok t (List.mem_of_getElem? hT.out))
  obtain ⟨K, hK⟩ : ∃ K, Hid (K = w.heap.size) := ⟨_, hid rfl⟩
  have A1 : Hid (All (deskL D va vb vm T M ++ (blkC K [.int .i64 kd, .int .i64 lg, .string nm, .int .i64 nu, .int .i64 tk] 40 :: cs)) (w.alloc (.cells #[.int .i64 kd, .int .i64 lg, .string nm, .int .i64 nu, .int .i64 tk] 40))) := hid (by
    have h1 := hA.addBlk [.int .i64 kd, .int .i64 lg, .string nm, .int .i64 nu, .int .i64 tk] 40
    rw [← hK.out] at h1
    exact h1.perm List.perm_middle.symm)
  obtain ⟨ra, ca, rb, cb, rfl, rfl, RD⟩ := desk_reads hT.out A1.out
  obtain ⟨c0, c1, pa, pb⟩ := RD
  simp only at hm hs
  have HAM : Hid (∀ W : World, Calls Try.prog 15 #[.int .i64 kd, .int .i64 6] W fun e w' => e = .returned (.int .i64 1) ∧ w' = W) := hid (fun W => by
    refine (among_is kd 6 (by decide) (by decide)).mono ?_
    rintro e w' ⟨rfl, rfl⟩
    rw [hm]
    exact ⟨rfl, rfl⟩)
  have HAK : Hid (∀ W : World, Calls Try.prog 15 #[.int .i64 lg, .int .i64 (T.length : Int)] W fun e w' => e = .returned (.int .i64 (k : Int)) ∧ w' = W) := hid (fun W => by
    refine (among_is lg T.length hF.one (by have := hF.four; omega)).mono ?_
    rintro e w' ⟨rfl, rfl⟩
    rw [hk0]
    exact ⟨rfl, rfl⟩)
  have HF := hid hF
  have hN4 := hF.four
  have j1 : (k : Int) < (T.length : Int) := by omega
  generalize hN : T.length = N at *
  have HN := hid hN
  clear hA hF hm hN hk0
  show Calls Try.prog 12 #[.pointer (some ⟨D, 0, none⟩), .agg #[.int .i64 kd, .int .i64 lg, .string nm, .int .i64 nu, .int .i64 tk], .int .i64 (i : Int)] w _
  go_enter Try.func12, Try.ntmps12
  go_upto_region 1 with fail
  rw [← hK.out]
  clear hK
  have ZZ : Hid (∀ (Y : List Comp) W, All (Y ++ (blkC K [.int .i64 kd, .int .i64 lg, .string nm, .int .i64 nu, .int .i64 tk] 40 :: cs)) W → W.cell? ⟨K, 0, none⟩ = some (.int .i64 kd) ∧ W.cell? ⟨K, 1, none⟩ = some (.int .i64 lg) ∧ W.cell? ⟨K, 2, none⟩ = some (.string nm) ∧ W.cell? ⟨K, 4, none⟩ = some (.int .i64 tk)) := hid (fun Y W hW => by
    have e : W.heap[K]? = some (.cells [.int .i64 kd, .int .i64 lg, .string nm, .int .i64 nu, .int .i64 tk].toArray 40 (0, 0)) := hW.blk (by simp)
    refine ⟨?_, ?_, ?_, ?_⟩ <;> (rw [cell_at e]; rfl))
  generalize (w.alloc (.cells #[.int .i64 kd, .int .i64 lg, .string nm, .int .i64 nu, .int .i64 tk] 40)) = w1 at *
  obtain ⟨z0, z1, z2, z4⟩ := ZZ.out _ _ A1.out
  go_region_held3 (fun W => W.cell? ⟨K, 1, none⟩ = some (.int .i64 lg) ∧ W.cell? ⟨D, 0, none⟩ = some (.slice (some ⟨ra, 0, none⟩) N ca)) (go_keep)
    ((go_at_call 15; refine (HAK.out _).mono ?_; rintro e w3 ⟨rfl, hw3⟩; have A3 := hid (show All _ w3 from hw3 ▸ A1.out.drew); obtain ⟨_, s1, _⟩ := ZZ.out _ _ A3.out; have s2 := (desk_rd hT.out A3.out).c0; clear hw3))
  clear HAK A1 c0 c1 pa pb z0 z1 z2 z4 s1 s2 hk
  obtain ⟨L, hL⟩ : ∃ L, Hid (L = w3.heap.size) := ⟨_, hid rfl⟩
  have A4 : Hid (All (deskL D (.slice (some ⟨ra, 0, none⟩) N ca) (.slice (some ⟨rb, 0, none⟩) N cb) vm T M ++ (blkC L [.string nm, .int .i64 0] 50 :: blkC K [.int .i64 kd, .int .i64 lg, .string nm, .int .i64 nu, .int .i64 tk] 40 :: cs)) (w3.alloc (.cells #[.string nm, .int .i64 0] 50))) := hid (by
    have h1 := A3.out.addBlk [.string nm, .int .i64 0] 50
    rw [← hL.out] at h1
    exact h1.perm List.perm_middle.symm)
  have ZY : Hid (∀ (Y : List Comp) W, All (Y ++ (blkC L [.string nm, .int .i64 0] 50 :: blkC K [.int .i64 kd, .int .i64 lg, .string nm, .int .i64 nu, .int .i64 tk] 40 :: cs)) W → W.cell? ⟨K, 0, none⟩ = some (.int .i64 kd) ∧ W.cell? ⟨K, 2, none⟩ = some (.string nm) ∧ W.cell? ⟨K, 4, none⟩ = some (.int .i64 tk) ∧ W.cell? ⟨L, 0, none⟩ = some (.string nm) ∧ W.cell? ⟨L, 1, none⟩ = some (.int .i64 0)) := hid (fun Y W hW => by
    have e1 : W.heap[K]? = some (.cells [.int .i64 kd, .int .i64 lg, .string nm, .int .i64 nu, .int .i64 tk].toArray 40 (0, 0)) := hW.blk (by simp)
    have e2 : W.heap[L]? = some (.cells [.string nm, .int .i64 0].toArray 50 (0, 0)) := hW.blk (by simp)
    refine ⟨?_, ?_, ?_, ?_, ?_⟩ <;> (first | (rw [cell_at e1]; rfl) | (rw [cell_at e2]; rfl)))
  obtain ⟨z0, z2, z4, y0, y1⟩ := ZY.out _ _ A4.out
  obtain ⟨_, _, x2, _⟩ := ZZ.out _ _ A3.out
  have hKl := World.block_lt_of_cell? _ _ x2
  clear A3 ZZ
  go_upto_region 3 with fail
  rw [← hL.out]
  clear hL
  generalize (w3.alloc (.cells #[.string nm, .int .i64 0] 50)) = w4 at *
  clear hKl x2
  go_wp2_with fail
  refine (HAM.out _).mono ?_
  rintro e w5 ⟨rfl, hw5⟩
  have A5 := hid (show All _ w5 from hw5 ▸ desk_out hT.out A4.out)
  have A4' := hid (show All _ w5 from hw5 ▸ A4.out)
  clear hw5 A4 z0 z2 z4 y0 y1 HAM
  have SS : Hid (∀ (X : List Comp) W, All (X ++ (hdL D (.slice (some ⟨ra, 0, none⟩) N ca) (.slice (some ⟨rb, 0, none⟩) N cb) vm (pA T) (pB T) M ++ (OT T k ++ (blkC L [.string nm, .int .i64 0] 50 :: blkC K [.int .i64 kd, .int .i64 lg, .string nm, .int .i64 nu, .int .i64 tk] 40 :: cs)))) W → W.cell? ⟨D, 0, none⟩ = some (.slice (some ⟨ra, 0, none⟩) N ca) ∧ W.cell? ⟨D, 1, none⟩ = some (.slice (some ⟨rb, 0, none⟩) N cb) ∧ W.cell? ⟨ra, k, none⟩ = some (.pointer (some ⟨t.P, 0, none⟩)) ∧ W.cell? ⟨rb, k, none⟩ = some (.pointer (some ⟨t.R, 0, none⟩)) ∧ W.cell? ⟨K, 2, none⟩ = some (.string nm) ∧ W.cell? ⟨K, 4, none⟩ = some (.int .i64 tk) ∧ W.cell? ⟨L, 0, none⟩ = some (.string nm) ∧ W.cell? ⟨L, 1, none⟩ = some (.int .i64 0)) := hid (fun X W hW => by
    obtain ⟨a1, a2, a3, a4⟩ := hd_reads hT.out HN.out hW
    obtain ⟨_, b1, b2, b3, b4⟩ := ZY.out (X ++ (hdL D (.slice (some ⟨ra, 0, none⟩) N ca) (.slice (some ⟨rb, 0, none⟩) N cb) vm (pA T) (pB T) M ++ OT T k)) W (by simpa [List.append_assoc] using hW)
    exact ⟨a1, a2, a3, a4, b1, b2, b3, b4⟩)
  have q0 := hid (SS.out [_, _] _ A5.out)
  obtain ⟨c0, c1, pa, pb, z2, z4, y0, y1⟩ := SS.out [_, _] _ A5.out
  have hle := hok.out.2
  have HS := hid hs
  have HZ := hid (A5.out.tabS_size hok.out.1)
  have HM := hid (A5.out.tabS_isMap)
  clear ZY hs
  go_wp2_with fail
  go_region_held3 (fun W => W.cell? ⟨D, 0, none⟩ = some (.slice (some ⟨ra, 0, none⟩) N ca) ∧ W.cell? ⟨D, 1, none⟩ = some (.slice (some ⟨rb, 0, none⟩) N cb) ∧ W.cell? ⟨ra, k, none⟩ = some (.pointer (some ⟨t.P, 0, none⟩)) ∧ W.cell? ⟨rb, k, none⟩ = some (.pointer (some ⟨t.R, 0, none⟩)) ∧ W.cell? ⟨K, 2, none⟩ = some (.string nm) ∧ W.cell? ⟨K, 4, none⟩ = some (.int .i64 tk) ∧ W.cell? ⟨L, 0, none⟩ = some (.string nm) ∧ W.cell? ⟨L, 1, none⟩ = some (.int .i64 0)) (first | exact q0.out | exact q1.out | exact q2.out)
    (first
      | (go_at_call 23; refine (CancelSP A5.out.drew nm HS.out).mono ?_; rintro e w6 ⟨rfl, A6⟩; have A6 := hid A6; have q1 := hid (SS.out [_, _] _ A6.out))
      | (go_at_call 17; refine (RCancelSP A6.out.swap hok.out.1 hle nm).mono ?_; rintro e w7 ⟨v7, ts7, rfl, A7, C7, l7⟩; have A7 := hid A7; have q2 := hid (SS.out [_, _] _ A7.out); have C7 := hid C7))
  clear c0 c1 pa pb z2 z4 y0 y1 q0 q1 q2
  go_wp2
  go_ret
  rw [← HN.out]
  exact ⟨rfl, (DeskI.mk (t' := { t with D := t.D.del (.string nm.data.toList), v := v7, ts := ts7 }) hT.out HF.out rfl rfl ⟨C7.out, l7⟩ A7.out.swap).drop⟩
end Go.Proofs.Ytphcfkfdkaphbaa

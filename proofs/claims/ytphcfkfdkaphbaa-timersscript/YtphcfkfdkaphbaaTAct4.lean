import Derived.Test.YtphcfkfdkaphbaaTAm
import Derived.Test.YtphcfkfdkaphbaaTMark
namespace Go.Proofs.Ytphcfkfdkaphbaa
open Go.RowKit
set_option linter.unusedVariables false

set_option maxHeartbeats 1600000 in
set_option maxRecDepth 1000000 in
theorem act_4 {D i : Nat} {va vb vm : Value} {T : List Tq} {M : List Mk} {cs : List Comp} {w : World} {x : Ac} (hA : All (deskL D va vb vm T M ++ cs) w) (hF : DF T M i) (hs : x.name.size ≤ maxLen) (hi : i ≤ 2932031007400) (hm : amN x.kind 6 = 4) : Calls Try.prog 12 #[.pointer (some ⟨D, 0, none⟩), .agg x.cells.toArray, .int .i64 (i : Int)] w fun e w' => e = .returned (.bool true) ∧ DeskI D T.length (i + 1) cs w' := by
  obtain ⟨kd, lg, nm, nu, tk⟩ := x
  have hk : amN lg T.length < T.length := amN_lt _ hF.one
  obtain ⟨k, hk0⟩ : ∃ k, amN lg T.length = k := ⟨_, rfl⟩
  rw [hk0] at hk
  obtain ⟨t, hT⟩ : ∃ t, Hid (T[k]? = some t) := ⟨_, hid (List.getElem?_eq_getElem hk)⟩
  have hok := hid (hF.ok t (List.mem_of_getElem? hT.out))
  obtain ⟨K, hK⟩ : ∃ K, Hid (K = w.heap.size) := ⟨_, hid rfl⟩
  have A1 : Hid (All (deskL D va vb vm T M ++ (blkC K [.int .i64 kd, .int .i64 lg, .string nm, .int .i64 nu, .int .i64 tk] 40 :: cs)) (w.alloc (.cells #[.int .i64 kd, .int .i64 lg, .string nm, .int .i64 nu, .int .i64 tk] 40))) := hid (by
    have h1 := hA.addBlk [.int .i64 kd, .int .i64 lg, .string nm, .int .i64 nu, .int .i64 tk] 40
    rw [← hK.out] at h1
    exact h1.perm List.perm_middle.symm)
  obtain ⟨ra, ca, rb, cb, rfl, rfl, RD⟩ := desk_reads hT.out A1.out
  obtain ⟨c0, c1, pa, pb⟩ := RD
  simp only at hm hs
  have HAM : Hid (∀ W : World, Calls Try.prog 15 #[.int .i64 kd, .int .i64 6] W fun e w' => e = .returned (.int .i64 4) ∧ w' = W) := hid (fun W => by
    refine (among_is kd 6 (by decide) (by decide)).mono ?_
    rintro e w' ⟨rfl, rfl⟩
    rw [hm]
    exact ⟨rfl, rfl⟩)
  have HAK : Hid (∀ W : World, Calls Try.prog 15 #[.int .i64 lg, .int .i64 (T.length : Int)] W fun e w' => e = .returned (.int .i64 (k : Int)) ∧ w' = W) := hid (fun W => by
    refine (among_is lg T.length hF.one (by have := hF.four; omega)).mono ?_
    rintro e w' ⟨rfl, rfl⟩
    rw [hk0]
    exact ⟨rfl, rfl⟩)
  have HF := hid hF
  have hN4 := hF.four
  have j1 : (k : Int) < (T.length : Int) := by omega
  generalize hN : T.length = N at *
  have HN := hid hN
  clear hA hF hm hN hk0
  show Calls Try.prog 12 #[.pointer (some ⟨D, 0, none⟩), .agg #[.int .i64 kd, .int .i64 lg, .string nm, .int .i64 nu, .int .i64 tk], .int .i64 (i : Int)] w _
  go_enter Try.func12, Try.ntmps12
  go_upto_region 1 with fail
  rw [← hK.out]
  clear hK
  have ZZ : Hid (∀ (Y : List Comp) W, All (Y ++ (blkC K [.int .i64 kd, .int .i64 lg, .string nm, .int .i64 nu, .int .i64 tk] 40 :: cs)) W → W.cell? ⟨K, 0, none⟩ = some (.int .i64 kd) ∧ W.cell? ⟨K, 1, none⟩ = some (.int .i64 lg) ∧ W.cell? ⟨K, 2, none⟩ = some (.string nm) ∧ W.cell? ⟨K, 4, none⟩ = some (.int .i64 tk)) := hid (fun Y W hW => by
    have e : W.heap[K]? = some (.cells [.int .i64 kd, .int .i64 lg, .string nm, .int .i64 nu, .int .i64 tk].toArray 40 (0, 0)) := hW.blk (by simp)
    refine ⟨?_, ?_, ?_, ?_⟩ <;> (rw [cell_at e]; rfl))
  generalize (w.alloc (.cells #[.int .i64 kd, .int .i64 lg, .string nm, .int .i64 nu, .int .i64 tk] 40)) = w1 at *
  obtain ⟨z0, z1, z2, z4⟩ := ZZ.out _ _ A1.out
  go_region_held3 (fun W => W.cell? ⟨K, 1, none⟩ = some (.int .i64 lg) ∧ W.cell? ⟨D, 0, none⟩ = some (.slice (some ⟨ra, 0, none⟩) N ca)) (go_keep)
    ((go_at_call 15; refine (HAK.out _).mono ?_; rintro e w3 ⟨rfl, hw3⟩; have A3 := hid (show All _ w3 from hw3 ▸ A1.out.drew); obtain ⟨_, s1, _⟩ := ZZ.out _ _ A3.out; have s2 := (desk_rd hT.out A3.out).c0; clear hw3))
  clear HAK A1 c0 c1 pa pb z0 z1 z2 z4 s1 s2 hk
  obtain ⟨L, hL⟩ : ∃ L, Hid (L = w3.heap.size) := ⟨_, hid rfl⟩
  have A4 : Hid (All (deskL D (.slice (some ⟨ra, 0, none⟩) N ca) (.slice (some ⟨rb, 0, none⟩) N cb) vm T M ++ (blkC L [.string nm, .int .i64 0] 50 :: blkC K [.int .i64 kd, .int .i64 lg, .string nm, .int .i64 nu, .int .i64 tk] 40 :: cs)) (w3.alloc (.cells #[.string nm, .int .i64 0] 50))) := hid (by
    have h1 := A3.out.addBlk [.string nm, .int .i64 0] 50
    rw [← hL.out] at h1
    exact h1.perm List.perm_middle.symm)
  have ZY : Hid (∀ (Y : List Comp) W, All (Y ++ (blkC L [.string nm, .int .i64 0] 50 :: blkC K [.int .i64 kd, .int .i64 lg, .string nm, .int .i64 nu, .int .i64 tk] 40 :: cs)) W → W.cell? ⟨K, 0, none⟩ = some (.int .i64 kd) ∧ W.cell? ⟨K, 2, none⟩ = some (.string nm) ∧ W.cell? ⟨K, 4, none⟩ = some (.int .i64 tk) ∧ W.cell? ⟨L, 0, none⟩ = some (.string nm) ∧ W.cell? ⟨L, 1, none⟩ = some (.int .i64 0)) := hid (fun Y W hW => by
    have e1 : W.heap[K]? = some (.cells [.int .i64 kd, .int .i64 lg, .string nm, .int .i64 nu, .int .i64 tk].toArray 40 (0, 0)) := hW.blk (by simp)
    have e2 : W.heap[L]? = some (.cells [.string nm, .int .i64 0].toArray 50 (0, 0)) := hW.blk (by simp)
    refine ⟨?_, ?_, ?_, ?_, ?_⟩ <;> (first | (rw [cell_at e1]; rfl) | (rw [cell_at e2]; rfl)))
  obtain ⟨z0, z2, z4, y0, y1⟩ := ZY.out _ _ A4.out
  obtain ⟨_, _, x2, _⟩ := ZZ.out _ _ A3.out
  have hKl := World.block_lt_of_cell? _ _ x2
  clear A3 ZZ
  go_upto_region 3 with fail
  rw [← hL.out]
  clear hL
  generalize (w3.alloc (.cells #[.string nm, .int .i64 0] 50)) = w4 at *
  clear hKl x2
  go_wp2_with fail
  refine (HAM.out _).mono ?_
  rintro e w5 ⟨rfl, hw5⟩
  have A5 := hid (show All _ w5 from hw5 ▸ desk_out hT.out A4.out)
  have A4' := hid (show All _ w5 from hw5 ▸ A4.out)
  clear hw5 A4 z0 z2 z4 y0 y1 HAM
  have SS : Hid (∀ (X : List Comp) W, All (X ++ (hdL D (.slice (some ⟨ra, 0, none⟩) N ca) (.slice (some ⟨rb, 0, none⟩) N cb) vm (pA T) (pB T) M ++ (OT T k ++ (blkC L [.string nm, .int .i64 0] 50 :: blkC K [.int .i64 kd, .int .i64 lg, .string nm, .int .i64 nu, .int .i64 tk] 40 :: cs)))) W → W.cell? ⟨D, 0, none⟩ = some (.slice (some ⟨ra, 0, none⟩) N ca) ∧ W.cell? ⟨D, 1, none⟩ = some (.slice (some ⟨rb, 0, none⟩) N cb) ∧ W.cell? ⟨ra, k, none⟩ = some (.pointer (some ⟨t.P, 0, none⟩)) ∧ W.cell? ⟨rb, k, none⟩ = some (.pointer (some ⟨t.R, 0, none⟩)) ∧ W.cell? ⟨K, 2, none⟩ = some (.string nm) ∧ W.cell? ⟨K, 4, none⟩ = some (.int .i64 tk) ∧ W.cell? ⟨L, 0, none⟩ = some (.string nm) ∧ W.cell? ⟨L, 1, none⟩ = some (.int .i64 0)) := hid (fun X W hW => by
    obtain ⟨a1, a2, a3, a4⟩ := hd_reads hT.out HN.out hW
    obtain ⟨_, b1, b2, b3, b4⟩ := ZY.out (X ++ (hdL D (.slice (some ⟨ra, 0, none⟩) N ca) (.slice (some ⟨rb, 0, none⟩) N cb) vm (pA T) (pB T) M ++ OT T k)) W (by simpa [List.append_assoc] using hW)
    exact ⟨a1, a2, a3, a4, b1, b2, b3, b4⟩)
  have q0 := hid (SS.out [_, _] _ A5.out)
  obtain ⟨c0, c1, pa, pb, z2, z4, y0, y1⟩ := SS.out [_, _] _ A5.out
  have hle := hok.out.2
  have HS := hid hs
  have HZ := hid (A5.out.tabS_size hok.out.1)
  have HM := hid (A5.out.tabS_isMap)
  clear ZY hs
  have hvm : ∃ am cm, vm = .slice am M.length cm := owns_form (show w5.ownsRow 0 96 2 vm M.length (flatM M) from (A5.out.mem (c := markC vm M) (by simp [hdL])).2.1)
  obtain ⟨am, cm, rfl⟩ := hvm
  go_wp2_with fail
  refine (ArmedSP A5.out hok.out.1 hle).mono ?_
  rintro e w6 ⟨lv, rfl, A6⟩
  have A6 := hid A6
  clear c0 c1 pa pb z2 z4 y0 y1 q0
  obtain ⟨c0, c1, pa, pb, z2, z4, y0, y1⟩ := SS.out [_, _, _] _ A6.out
  obtain ⟨a1, k1, hlv⟩ := owns_form (show w6.ownsRow 0 9 1 lv _ _ from A6.out.1.2.1)
  rw [List.length_map] at hlv
  subst hlv
  go_wp2_with fail
  refine (RArmed A6.out.cab (by omega)).mono ?_
  rintro e w7 ⟨gv, rfl, A7⟩
  have A7 := hid A7
  clear c0 c1 pa pb z2 z4 y0 y1
  obtain ⟨a2, k2, rfl⟩ := owns_form (show w7.ownsRow 0 50 2 gv _ _ from A7.out.1.2.1)
  have ht1 : Hid (w7.ownsRow 0 9 1 (.slice a1 t.ts.length k1) t.ts.length (t.ts.map fun x => .string x.t)) := hid (by
    have h : w7.ownsRow 0 9 1 (.slice a1 t.ts.length k1) (t.ts.map fun x => Value.string x.t).length (t.ts.map fun x => .string x.t) := A7.out.tail.tail.1.2.1
    rw [List.length_map] at h
    exact h)
  go_wp2_with fail
  refine (texts_any ht1.out A7.out.1.2.1 (by omega)).mono ?_
  rintro e w8 ⟨rfl, hb⟩
  have A8 := hid (A7.out.tail.bca.later hb)
  clear A7 ht1 hb
  have hD2 : ∀ W, Below w8.heap.size w8 W → W.cell? ⟨D, 2, none⟩ = some (.slice am M.length cm) := fun W hb => by
    have hD : W.heap[D]? = some (.cells [.slice (some ⟨ra, 0, none⟩) N ca, .slice (some ⟨rb, 0, none⟩) N cb, .slice am M.length cm].toArray 34 (0, 0)) := (A8.out.later hb).blk (by simp [hdL])
    rw [cell_at hD]; rfl
  have d2 := hD2 w8 (Below.refl _ _)
  have HH : Hid (∀ (W : World) (s : ByteArray), Below w8.drew.heap.size w8.drew W → W.cell? ⟨D, 2, none⟩ = some (.slice am M.length cm) ∧ Calls Try.prog 44 #[.slice a1 t.ts.length k1, .string s] W fun e w' => ∃ ao c, e = .returned (.agg #[.slice ao (t.ts.length + 3) c, .string s]) ∧ w'.cell? ⟨D, 2, none⟩ = some (.slice am M.length cm) ∧ D < w'.heap.size ∧ (∃ ao2 c2 w3, (Builtin.append_ #[32, 32] 32 #[.slice am M.length cm, .slice (some ⟨w'.heap.size, 0, none⟩) 1 1]).run Try.prog (w'.alloc (.cells #[.slice ao (t.ts.length + 3) c, .string s] 96)) = .ok (.slice ao2 (M.length + 1) c2) w3 ∧ w3.cell? ⟨D, 2, none⟩ = some (.slice am M.length cm) ∧ w3.frozen? ⟨D, 2, none⟩ = false ∧ Hid (DeskI D T.length (i + 1) (blkC K [.int .i64 kd, .int .i64 lg, .string nm, .int .i64 nu, .int .i64 tk] 40 :: cs) (w3.setCell ⟨D, 2, none⟩ (.slice ao2 (M.length + 1) c2))))) := hid (fun W s hb => by
    have hb' : Below w8.heap.size w8 W := below2 (bd w8) hb
    refine ⟨hD2 W hb', ?_⟩
    have := hold_add (t' := t) (A8.out.later hb') hT.out rfl rfl hok.out HF.out hi (by rw [List.length_map]; omega) s
    rw [List.length_map] at this
    exact this)
  clear hD2
  go_wp2_with fail
  go_region_law (first
    | (go_simp; go_at_call 45; refine (mark_any i hi).mono ?_; rintro e w9 ⟨s, rfl, hb9⟩; have H9 := hid (HH.out w9 s hb9); have d9 := H9.out.1; clear hb9)
    | (go_simp; go_at_call 44; refine H9.out.2.mono ?_; rintro e w10 ⟨ao, c, rfl, s1, s2, ao2, c2, w11, hr, s3, s4, HI⟩; have HR := hid hr; clear hr)
    | (refine step_append_run (by rfl) (.tmp 172) (.tmp 177) 32 (by rfl) _ _ _ _ (by rfl) (by rfl) HR.out ?_))
  all_goals clear HR s1 s2 d2 d9 H9 HH
  all_goals (go_wp2; go_ret; rw [← HN.out]; exact ⟨rfl, HI.out.drop⟩)
end Go.Proofs.Ytphcfkfdkaphbaa

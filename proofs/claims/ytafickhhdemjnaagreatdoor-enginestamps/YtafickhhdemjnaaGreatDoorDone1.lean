import Derived.Test.YtafickhhdemjnaaGreatDoorJ11
namespace Go.Proofs.YtafickhhdemjnaaGreatDoor
open Go.RowKit
set_option linter.unusedVariables false
attribute [local go_sem] run_store_func run_store_nilf

set_option maxHeartbeats 3200000 in
set_option maxRecDepth 1000000 in
theorem done_1 {P : Nat} {qs : List Qv} {pre cs : List Comp} {w : World} (hm : blkC P (flat qs) 159 ∈ pre) (h8 : qs.length = 8) (nm tx : ByteArray) (n m : Int) {j : Int} {G : Int → Int → Value → List Comp → Prop}
    (hc : ∀ (cs' : List Comp) (w' : World), All (pre ++ cs') w' → Calls Tryz.prog 149 #[.pointer (some ⟨P, 0, none⟩), .int .i64 (findN qs nm), opV 1 nm tx n m] w' fun e w'' => ∃ c x so sn sc post, e = .returned (.tuple #[resV c x (.slice so sn sc), .int .i64 j]) ∧ G c x (.slice so sn sc) post ∧ All (post ++ cs') w'')
    (h : All (pre ++ cs) w) :
    Calls Tryz.prog 82 #[.pointer (some ⟨P, 0, none⟩), opV 1 nm tx n m] w fun e w'' => ∃ c x so sn sc post, e = .returned (.tuple #[resV c x (.slice so sn sc), .int .i64 j]) ∧ G c x (.slice so sn sc) post ∧ All (post ++ cs) w'' := by
  have T := hid (done_start h nm tx n m 1)
  have HC := hid hc
  have HM := hid hm
  have hP : P < w.heap.size := (h.mem (List.mem_append_left _ hm)).2.2 P (by simp [blkC])
  clear h hc hm
  generalize hW : (w.alloc (opB 1 nm tx n m)).alloc (.cells #[.int .i64 0, .int .i64 0, .slice none 0 0] 56) = w1 at T
  have o0 := T.out.o0
  have o1 := T.out.o1
  have hz1 := T.out.lt
  have hz2 := Nat.lt_of_succ_lt hz1
  have hix : ∀ W : World, (Instr.index 195 deedsV (.int .i64 1)).run Tryz.prog W = .ok (.agg #[fnV 149, .bool false]) W := fun W => by kernel_rfl
  have F1 := hid (find_any (w := w1.drew) (T.out.blk HM.out) h8 nm)
  have F2 := hid (find_any (w := (w1.alloc (.cells #[.nilFunc, .bool false] 194)).drew) ((T.out.next (ba _ _)).blk HM.out) h8 nm)
  have D1 := hid (deeds_1 (T.out.next (bd w1)) HM.out)
  have D2 := hid (deeds_2 T.out HM.out)
  go_enter Tryz.func82, Tryz.ntmps82
  go_upto_region 1 with fail
  go_cut [6, 7] from 8 to 15 (fun dv fv wx => ∃ b, dv = .pointer (some ⟨b, 0, none⟩) ∧ fv = .int .i64 (findN qs nm) ∧ Hid (Begun w wx (blkC b [fnV 149, .bool false] 194 :: pre) cs 1 nm tx n m))
  case first =>
   go_region_law (go_simp; first | (go_at_call 118; refine D1.out.mono ?_; rintro e w3 ⟨rfl, T3, hlt3, hlt4, s0, s1, F3, F4⟩) | (go_at_call 118; refine D2.out.mono ?_; rintro e w3 ⟨rfl, T3, hlt3, hlt4, s0, s1, F3, q0, q1, z0, z1⟩) | (go_at_call 119; refine F1.out.mono ?_; rintro e w4 ⟨rfl, hw4⟩; subst hw4) | (go_at_call 119; refine F2.out.mono ?_; rintro e w4 ⟨rfl, hw4⟩; subst hw4) | (go_at_call 119; refine (F3.out h8 nm).mono ?_; rintro e w4 ⟨rfl, hw4⟩; subst hw4) | (go_at_call 119; refine (F4.out h8 nm).mono ?_; rintro e w4 ⟨rfl, hw4⟩; subst hw4))
   all_goals (go_wp2_with fail; go_meet)
   all_goals first | exact ⟨_, rfl, rfl, begun_a T3.out⟩ | exact ⟨_, rfl, rfl, begun_b T3.out⟩ | skip
  case rest =>
  obtain ⟨b, rfl, rfl, TB⟩ := hcut
  clear F1 F2 D1 D2 hix hW o0 o1 T hz1 hz2
  have b0 := TB.out.b0
  have b1 := TB.out.b1
  have o0 := TB.out.o0
  have o1 := TB.out.o1
  have o2 := TB.out.o2
  have o3 := TB.out.o3
  have o4 := TB.out.o4
  go_wp2_with fail
  refine (HC.out _ _ TB.out.handed).mono ?_
  rintro e w5 ⟨c, x, so, sn, sc, post, rfl, hG, A5⟩
  have A6 := hid (handed_back A5)
  have HG := hid hG
  clear A5 hG TB b0 b1 o0 o1 o2 o3 o4
  have r0 := A6.out.r0
  have r1 := A6.out.r1
  have r2 := A6.out.r2
  have g0 := A6.out.rf 0
  have g1 := A6.out.rf 1
  have g2 := A6.out.rf 2
  have A8 := hid (A6.out.setR (.int .i64 c) (.int .i64 x) (.slice so sn sc))
  clear A6
  go_wp2
  generalize (((w5.setCell ⟨w.heap.size + 1, 0, none⟩ (.int .i64 c)).setCell ⟨w.heap.size + 1, 1, none⟩ (.int .i64 x)).setCell ⟨w.heap.size + 1, 2, none⟩ (.slice so sn sc)) = w6 at A8 ⊢
  clear r0 r1 r2
  have r0 := A8.out.r0
  have r1 := A8.out.r1
  have r2 := A8.out.r2
  refine bodyPost_ret (v := .tuple #[resV c x (.slice so sn sc), .int .i64 j]) (by rw [results_cell_tmp (fn := Tryz.f82) (p := 4) (u := 5) (ty := 56) rfl]; go_simp) rfl ?_
  exact ⟨c, x, so, sn, sc, post, rfl, HG.out, A8.out.tail.tail.tail⟩
end Go.Proofs.YtafickhhdemjnaaGreatDoor

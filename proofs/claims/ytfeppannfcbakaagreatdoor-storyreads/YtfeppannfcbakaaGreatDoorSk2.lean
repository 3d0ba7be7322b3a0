import Derived.Test.YtfeppannfcbakaaGreatDoorJ17
import Derived.LoopN
namespace Go.Proofs.YtfeppannfcbakaaGreatDoor
open Go.RowKit
set_option linter.unusedVariables false
set_option maxRecDepth 1000000
set_option maxHeartbeats 12800000
def evQ (x : Int) : Ev := { Ev.zero 0 with a := x }
theorem RdR.cell {w : World} {g n c j : Nat} {vs : List Value} {u : Value} (h : RdR w (.slice (some ⟨g, 0, none⟩) n c) n vs) (hj : vs[j]? = some u) : w.cell? ⟨g, j, none⟩ = some u := by
 obtain ⟨ao, c', e, hx⟩ := h
 simp only [Value.slice.injEq, true_and] at e
 obtain ⟨rfl, _⟩ := e
 rcases hx with e | ⟨g', e, _, hc⟩
 · rw [e] at hj; simp at hj
 · simp only [Option.some.injEq, Addr.mk.injEq, and_true] at e
   subst e
   exact hc j u hj
theorem szQ (V : World) (o : Obj) : (V.alloc o).heap.size = V.heap.size + 1 := by simp
theorem inf9 : (Tryz.prog.info? 9).map (fun i => (i.zero, i.size, i.bytes)) = some (some (.string ⟨#[]⟩), 1, 16) := by kernel_rfl
theorem inf27 : (Tryz.prog.info? 27).map (fun i => (i.zero, i.size, i.bytes)) = some (some (.slice none 0 0), 1, 24) := by kernel_rfl
theorem und78 : Tryz.prog.underlying 78 = some (.slice 27) := by kernel_rfl
theorem spoiled_any {EC : List Value} {ia da : Option Addr} {ic dc H1 H2 : Nat} {items : Ws} {data : List UInt8} {cs : List Comp} {w : World} (hEC : EC.length = 33) (h21 : EC[21]? = some (.slice ia items.length ic)) (h32 : EC[32]? = some (.slice da data.length dc)) (hil : items.length ≤ 1000000) (hdl : data.length ≤ 1000000) (A : All (blkC H2 [.slice (some ⟨H1, 0, none⟩) 1 1] 42 :: blkC H1 EC 36 :: ownC 9 (.slice ia items.length ic) (txW items) :: ownC 5 (.slice da data.length dc) (cellsB data) :: cs) w) :
   Calls Tryz.prog 16 #[.slice (some ⟨H2, 0, none⟩) 1 1] w fun r w' => r = .returned (.bool true) ∧ All cs w' := by
 have A1 := hid (A.addBlk [.slice none 0 0, .slice none 0 0] 77)
 obtain ⟨S, hS⟩ : ∃ S, Hid (S = w.heap.size) := ⟨_, hid rfl⟩
 rw [← hS.out] at A1
 have H21 := hid h21
 have H32 := hid h32
 have HEC := hid hEC
 have HIL := hid hil
 clear A h21 h32 hEC
 go_enter Tryz.func16, Tryz.ntmps16
 go_upto_region 2 with fail
 simp only [← hS.out]
 generalize w.alloc (.cells #[.slice none 0 0, .slice none 0 0] 77) = w1 at *
 have A2 := hid (A1.out.addRowE 27 1)
 obtain ⟨T, hT⟩ : ∃ T, Hid (T = w1.heap.size) := ⟨_, hid rfl⟩
 rw [← hT.out] at A2
 go_upto_region 3 with fail
 simp only [← hT.out]
 generalize w1.alloc (.cells #[] 27) = w2 at *
 clear A1 hS hT
 have c1 := cell_in (C := [.slice (some ⟨H1, 0, none⟩) 1 1]) A2.out (P := H2) (t := 42) (o := 0) (by simp) rfl
 have c2 := cell_in (C := EC) A2.out (P := H1) (t := 36) (o := 32) (by simp) H32.out
 have A3 := hid (((A2.out.perm (List.perm_middle (l₁ := [_, _, _, _, _]))).addNil (e := 32)).addNil (e := 32) |>.perm (List.perm_middle (l₁ := [_, _, _, _])))
 have KP := hid (keep_any (S := S) (ov := .slice none 0 0) (wv := .slice none 0 0) (us := []) (ms := []) (lv := .slice da data.length dc) (xs := data) (by have h := A3.out; rw [← byR_eq] at h; exact h) (by omega) (by simp) (by simp))
 clear A2 A3
 go_wp2
 refine wp_loop_rounds 2 ?_
 rw [rounds_succ]
 go_wp2
 refine wp_loop_rounds 2 ?_
 rw [rounds_succ]
 go_upto_region 10 with (go_at_call 38; refine KP.out.mono ?_; rintro r w3 ⟨rfl, ov, wv, m, A4'⟩; have A4 := hid A4'; clear A4')
 clear KP c1 c2
 have i1 := cell_in (C := [.slice (some ⟨H1, 0, none⟩) 1 1]) A4.out (P := H2) (t := 42) (o := 0) (by simp) rfl
 have i2 := cell_in (C := EC) A4.out (P := H1) (t := 36) (o := 21) (by simp) H21.out
 obtain ⟨ti, hti, tz0, tz1, tz2⟩ := info_parts inf27
 have A5 := hid (A4.out.perm (List.perm_middle (l₁ := [_, _, _, _, _])))
 have RT : Hid (∃ ao c w', (Builtin.append_ #[78, 78] 78 #[.slice (some ⟨T, 0, none⟩) 0 0, .slice (some ⟨w3.heap.size, 0, none⟩) 1 1]).run Tryz.prog (w3.alloc (.cells #[.slice ia items.length ic] 27)) = .ok (.slice ao 1 c) w' ∧ All (rowC 27 1 (.slice ao 1 c) 1 [.slice ia items.length ic] :: boxC S ov wv :: slC ov [.slice da data.length dc] :: slC wv [m] :: byR (.slice da data.length dc) data :: byR m data :: blkC H2 [.slice (some ⟨H1, 0, none⟩) 1 1] 42 :: blkC H1 EC 36 :: ownC 9 (.slice ia items.length ic) (txW items) :: cs) w') := hid (by
   obtain ⟨ao, c, w', hr, hA⟩ := appN (c := 1) (news := [.slice ia items.length ic]) (m := 1) und78 hti tz0 tz1 tz2 rfl (by decide) (A5.out.alloc (.cells #[.slice ia items.length ic] 27)) (some ⟨w3.heap.size, 0, none⟩) rfl (fun _ => ⟨_, rfl, fun j u hu => by
     rw [Addr.add_lit, Nat.zero_add]
     have hg := heap_alloc_new w3 (.cells #[.slice ia items.length ic] 27)
     rw [cell_at hg]
     simpa using hu⟩) (fun u hu => by simp only [List.mem_singleton] at hu; subst hu; rfl) (by unfold maxLen; omega) (by omega)
   exact ⟨ao, c, w', hr, hA⟩)
 obtain ⟨ta, tc, w4, hr4, hA6⟩ := RT.out
 have A6 := hid hA6
 clear hA6 RT A5 A4 ti hti tz0 tz1 tz2
 go_wp2_with (at_builtin; refine wpList_append_run rfl _ _ 78 rfl _ _ _ _ rfl rfl hr4 ?_)
 clear i1 i2
 have c1 := cell_in (C := [.slice (some ⟨H1, 0, none⟩) 1 1]) A6.out (P := H2) (t := 42) (o := 0) (by simp) rfl
 rw [rounds_succ]
 go_wp2
 rw [rounds_succ]
 go_wp2
 have HB := hid (A6.out.blk (g := H1) (vs := EC) (t := 36) (by simp))
 have A7 := hid ((A6.out.perm (List.perm_middle (l₁ := [_, _, _, _, _, _, _]))).setRow (vs' := (evQ 1).cells))
 have I36 : Hid (∀ x, (Tryz.prog.info? 36).map (·.size) = some (evQ x).cells.toArray.size) := hid (fun x => by kernel_rfl)
 have O36 : Hid (∀ x, (evQ x).cells.toArray.all (·.oneCell') = true) := hid (fun x => by kernel_rfl)
 have Z36 : Hid (EC.toArray.size = (evQ 1).cells.toArray.size) := hid (by rw [List.size_toArray, HEC.out]; rfl)
 clear A6
 refine wp_loop_rounds 2 ?_
 rw [rounds_succ]
 go_wp2
 refine wp_loop_rounds 2 ?_
 rw [rounds_succ]
 go_upto_region 16 with (first | (refine wpList_build rfl 36 _ rfl (by kernel_rfl) ?_) | (refine wpList_store_row rfl 36 _ _ rfl H1 (evQ 1).cells.toArray rfl (by kernel_rfl) 36 _ HB.out (I36.out 1) Z36.out (O36.out 1) ?_))
 generalize World.setRow _ _ _ = w5 at *
 clear c1 HB Z36
 have c1 := cell_in (C := [.slice (some ⟨H1, 0, none⟩) 1 1]) A7.out (P := H2) (t := 42) (o := 0) (by simp) rfl
 go_wp2
 rw [rounds_succ]
 go_wp2
 rw [rounds_succ]
 go_wp2
 obtain ⟨RS, hRS⟩ : ∃ RS, Hid (RS = rowC 27 1 (.slice ta 1 tc) 1 [.slice ia items.length ic] :: boxC S ov wv :: slC ov [.slice da data.length dc] :: slC wv [m] :: byR (.slice da data.length dc) data :: byR m data :: blkC H2 [.slice (some ⟨H1, 0, none⟩) 1 1] 42 :: ownC 9 (.slice ia items.length ic) (txW items) :: cs) := ⟨_, hid rfl⟩
 have A8 : Hid (All (extR 36 33 (.slice (some ⟨H1, 0, none⟩) 1 1) 1 (evQ 1).cells (.slice (some ⟨H1, 0, none⟩) 1 1) 1 (evQ 1).cells :: RS) w5) := hid (by rw [hRS.out]; exact (row_of_blk (n := 1) (size := 33) A7.out rfl (by omega)).extR_begin)
 clear A7
 refine wp_loop_rounds 2 ?_
 rw [rounds_succ]
 go_wp2
 go_loopw [10, 11] (fun u10 u11 wr => ∃ (j : Nat) (v : Option Addr) (c : Nat) (us : List Value), u10 = .slice v (1 + j) c ∧ u11 = .int .i64 (j : Int) ∧ j ≤ 9 ∧ Hid (All (extR 36 33 (.slice (some ⟨H1, 0, none⟩) 1 1) 1 (evQ 1).cells (.slice v (1 + j) c) (1 + j) us :: RS) wr)) (fun _ u11 _ => 10 - (intOf u11).toNat)
 case atStart => exact ⟨0, _, _, _, rfl, rfl, by omega, A8⟩
 case round =>
   clear A8 c1
   obtain ⟨j, v, c, us, rfl, rfl, hj, HA⟩ := hrel
   by_cases hj9 : j < 9
   · obtain ⟨ei, hei, ez0, ez1, ez2⟩ := info_parts Tryz.inf36
     obtain ⟨ie, z, bs⟩ := bs36 (evQ (-1))
     have BS := hid bs
     have RT : Hid (∃ g cap w', (Builtin.append_ #[42, 42] 42 #[.slice v (1 + j) c, .slice (some ⟨wr.heap.size, 0, none⟩) 1 1]).run Tryz.prog (wr.alloc (.cells (evQ (-1)).cells.toArray 36)) = .ok (.slice (some ⟨g, 0, none⟩) (1 + j + 1) cap) w' ∧ All (extR 36 33 (.slice (some ⟨H1, 0, none⟩) 1 1) 1 (evQ 1).cells (.slice (some ⟨g, 0, none⟩) (1 + j + 1) cap) (1 + j + 1) (us ++ (evQ (-1)).cells) :: RS) w') := hid (by
       have HA2 := HA.out.alloc (.cells (evQ (-1)).cells.toArray 36)
       obtain ⟨g, cap, w', hr, h2, h3, h4⟩ := append_two (P := Tryz.prog) (wr.alloc (.cells (evQ (-1)).cells.toArray 36)) 42 36 ei _ 33 328 und42 hei ez0 ez1 ez2 rfl (by decide) (.slice v (1 + j) c) (1 + j) us HA2.1.2.1.2.1 ⟨wr.heap.size, 0, none⟩ 1 1 (evQ (-1)).cells rfl (fun q u hu => by
         rw [Addr.add_lit, Nat.zero_add]
         have hg := heap_alloc_new wr (.cells (evQ (-1)).cells.toArray 36)
         rw [cell_at hg]
         simpa using hu) (ev_one (evQ (-1))) (by decide) (by unfold maxLen; omega) (by omega)
       exact ⟨g, cap, w', hr, HA2.extR_grow h2 h3 h4⟩)
     obtain ⟨g, cap, w6, hr6, hA6⟩ := RT.out
     have A9 := hid hA6
     have hjj : (j : Int) < 9 := by omega
     have wj : IntKind.i64.wrap ((j : Int) + 1) = ((j + 1 : Nat) : Int) := by rw [IntKind.wrap_i64]; omega
     clear RT hA6 HA ei hei ez0 ez1 ez2 bs
     go_wp2_with (first | (refine wpList_build rfl 36 _ rfl (by kernel_rfl) ?_) | (refine wpList_buildSlice rfl 42 36 1 _ rfl (evQ (-1)).cells.toArray ie z und42 BS.out.i BS.out.o BS.out.s BS.out.p (fill_of BS.out.f (by kernel_rfl)) ?_) | (at_builtin; refine wpList_append_run rfl _ _ 42 rfl _ _ _ _ rfl rfl hr6 ?_))
     refine ⟨⟨j + 1, _, cap, _, rfl, rfl, by omega, A9⟩, ?_⟩
     simp only [intOf]; omega
   · have hj9' : j = 9 := by omega
     have hjn : ¬ ((j : Int) < 9) := by omega
     have A9 := HA
     clear HA hj hj9 hj9'
     generalize wr = w7 at *
     have c1 : w7.cell? ⟨H2, 0, none⟩ = some (.slice (some ⟨H1, 0, none⟩) 1 1) := cell_in (C := [.slice (some ⟨H1, 0, none⟩) 1 1]) A9.out (P := H2) (t := 42) (o := 0) (by rw [hRS.out]; simp) rfl
     have d1 : w7.cell? ⟨H1, 1, none⟩ = some (.int .i64 1) := A9.out.1.2.1.1.cell rfl
     go_wp2
     rw [rounds_succ]
     go_wp2
     refine wp_loop_rounds 2 ?_
     rw [rounds_succ]
     go_wp2
     refine wp_loop_rounds 2 ?_
     rw [rounds_succ]
     go_wp2
     rw [rounds_succ]
     go_wp2
     rw [rounds_succ]
     go_wp2
     clear c1 d1
     have hA9 := A9.out
     rw [hRS.out] at hA9
     obtain ⟨gT, eT, _, t1⟩ := row_at (k := 0) (u := .slice ia items.length ic) (show w7.ownsRow 0 27 1 (.slice ta 1 tc) 1 [.slice ia items.length ic] from hA9.tail.1.2.1) rfl
     subst eT
     obtain ⟨RT, hRT⟩ : ∃ R, Hid (R = extR 36 33 (.slice (some ⟨H1, 0, none⟩) 1 1) 1 (evQ 1).cells (.slice v (1 + j) c) (1 + j) us :: rowC 27 1 (.slice (some ⟨gT, 0, none⟩) 1 tc) 1 [.slice ia items.length ic] :: boxC S ov wv :: slC ov [.slice da data.length dc] :: slC wv [m] :: byR (.slice da data.length dc) data :: byR m data :: blkC H2 [.slice (some ⟨H1, 0, none⟩) 1 1] 42 :: cs) := ⟨_, hid rfl⟩
     have B9 : Hid (All (rowC 9 1 (.slice ia items.length ic) items.length (txW items) :: RT) w7) := hid (by
       rw [hRT.out]
       have h := hA9.perm (List.perm_middle (l₁ := [_, _, _, _, _, _, _, _]))
       have e : ownC 9 (.slice ia items.length ic) (txW items) = rowC 9 1 (.slice ia items.length ic) items.length (txW items) := by unfold ownC rowC; rw [txW_length]
       rw [e] at h
       exact h)
     have TC : Hid (∀ W (v : Value) (n : Nat) (vs : List Value), All (rowC 9 1 v n vs :: RT) W → W.cell? ⟨gT, 0, none⟩ = some (.slice ia items.length ic)) := hid (fun W v n vs h => by
       rw [hRT.out] at h
       obtain ⟨g', e', _, hc⟩ := row_at (k := 0) (u := .slice ia items.length ic) (show W.ownsRow 0 27 1 (.slice (some ⟨gT, 0, none⟩) 1 tc) 1 [.slice ia items.length ic] from h.tail.tail.1.2.1) rfl
       simp only [Option.some.injEq, Addr.mk.injEq, and_true] at e'
       subst e'
       exact hc)
     clear A9 hA9 t1 hRS H21 H32
     obtain ⟨n, hn⟩ : ∃ n, Hid (n = items.length) := ⟨_, hid rfl⟩
     have hnb : n ≤ 1000000 := by rw [hn.out]; exact HIL.out
     rw [← hn.out] at B9 TC
     refine wp_loop_rounds 2 ?_
     rw [rounds_succ]
     go_wp2
     go_loopw [15] (fun u15 wr => ∃ (k : Nat) (vs : List Value), u15 = .int .i64 (k : Int) ∧ k ≤ n ∧ Hid (All (rowC 9 1 (.slice ia n ic) n vs :: RT) wr) ∧ Hid (∀ j, j < k → vs[j]? = some (.string ⟨#[0, UInt8.ofNat j]⟩))) (fun u15 _ => n + 1 - (intOf u15).toNat)
     case atStart => exact ⟨0, _, rfl, Nat.zero_le _, B9, hid (fun j hj => absurd hj (Nat.not_lt_zero _))⟩
     case round =>
       clear B9
       obtain ⟨k, vs, rfl, hk, HB, HV⟩ := hrel
       have tc1 := TC.out _ _ _ _ HB.out
       by_cases hkn : k < n
       · obtain ⟨gi, rfl⟩ : ∃ gi, ia = some ⟨gi, 0, none⟩ := by
           rcases HB.out.1.2.1.2 with ⟨e0, e1⟩ | ⟨g, cap, cur, e0, _⟩
           · omega
           · simp only [Value.slice.injEq] at e0
             exact ⟨g, e0.1⟩
         have hki : (k : Int) < (n : Int) := by omega
         obtain ⟨b, hb⟩ : ∃ b : UInt8, Hid (b = UInt8.ofNat k) := ⟨_, hid rfl⟩
         have wu : IntKind.u8.wrap (k : Int) = (b.toNat : Int) := by rw [IntKind.wrap_u8, hb.out]; simp
         have z0 : IntKind.u8.wrap 0 = 0 := by decide
         have wk : IntKind.i64.wrap ((k : Int) + 1) = ((k + 1 : Nat) : Int) := by rw [IntKind.wrap_i64]; omega
         have B2 := hid ((HB.out.alloc (.cells #[.int .u8 0, .int .u8 (b.toNat : Int)] 5)).drew)
         have CVF : Hid ((convert 32 9 (.slice (some ⟨wr.heap.size, 0, none⟩) 2 2)).run Tryz.prog ((wr.alloc (.cells #[.int .u8 0, .int .u8 (b.toNat : Int)] 5)).drew) = .ok (.string ⟨#[0, b]⟩) ((wr.alloc (.cells #[.int .u8 0, .int .u8 (b.toNat : Int)] 5)).drew)) := hid (conv_string (l := [0, b]) ⟨_, _, rfl, Nat.le_refl _, Or.inr ⟨wr.heap.size, 0, rfl, Nat.lt_of_lt_of_eq (Nat.lt_succ_self wr.heap.size) (szQ wr _).symm, fun j u hu => by
           rw [Nat.zero_add]
           have hg := heap_alloc_new wr (.cells #[.int .u8 0, .int .u8 (b.toNat : Int)] 5)
           refine (cell_at (w := (wr.alloc (.cells #[.int .u8 0, .int .u8 (b.toNat : Int)] 5)).drew) (b := wr.heap.size) hg j).trans ?_
           simpa [cellsB] using hu⟩⟩)
         have cvf := CVF.out
         have B3 := hid (B2.out.row_put (k := k) (.string ⟨#[0, b]⟩))
         obtain ⟨uo, huo⟩ : ∃ u, ((wr.alloc (.cells #[.int .u8 0, .int .u8 (b.toNat : Int)] 5)).drew).cell? ⟨gi, k, none⟩ = some u := by
           have hl : vs.length = n * 1 := HB.out.1.2.1.1
           have hv := List.getElem?_eq_getElem (l := vs) (i := k) (by omega)
           have := World.ownsRow.cells (g := gi) B2.out.1.2.1 rfl k _ hv
           exact ⟨_, by simpa [Addr.add_lit] using this⟩
         have fo : ((wr.alloc (.cells #[.int .u8 0, .int .u8 (b.toNat : Int)] 5)).drew).frozen? ⟨gi, k, none⟩ = false := World.ownsRow.frozenAt B2.out.1.2.1 k
         go_upto_region 40 with fail
         refine wp_region_held_drew (S := (fun W => W.cell? ⟨gT, 0, none⟩ = some (.slice (some ⟨gi, 0, none⟩) n ic))) (by kernel_rfl) (TC.out _ _ _ _ HB.out.drew) (fun hHeld => ?_)
         refine wpAnyH_take (i := 0) (oi := _) (v := ?_) rfl (by kernel_rfl) (by kernel_rfl) (by kernel_rfl) (fun _ _ _ h => h) (Or.inl ⟨by rfl, ?_⟩) hHeld ?_
         rotate_left
         · intro W hSw
           (try dsimp only at hSw)
           go_simp
           (try with_reducible rfl)
         (try simp only [puS])
         refine wpAnyH_take (i := 1) (oi := _) (v := ?_) rfl (by kernel_rfl) (by kernel_rfl) (by kernel_rfl) (fun _ _ _ h => h) (Or.inl ⟨by rfl, ?_⟩) hHeld ?_
         rotate_left
         · intro W hSw
           (try dsimp only at hSw)
           go_simp
           (try with_reducible rfl)
         (try simp only [puS])
         refine wpAnyH_take (i := 2) (oi := _) (v := ?_) rfl (by kernel_rfl) (by kernel_rfl) (by kernel_rfl) (fun _ _ _ h => h) (Or.inl ⟨by rfl, ?_⟩) hHeld ?_
         rotate_left
         · intro W hSw
           (try dsimp only at hSw)
           go_simp
           (try with_reducible rfl)
         (try simp only [puS])
         refine wpAnyH_take (i := 3) (oi := _) (v := ?_) rfl (by kernel_rfl) (by kernel_rfl) (by kernel_rfl) (fun _ _ _ h => h) (Or.inl ⟨by rfl, ?_⟩) hHeld ?_
         rotate_left
         · intro W hSw
           (try dsimp only at hSw)
           go_simp
           (try with_reducible rfl)
         (try simp only [puS])
         refine wpAnyH_take (i := 4) (oi := _) (v := ?_) rfl (by kernel_rfl) (by kernel_rfl) (by kernel_rfl) (fun _ _ _ h => h) (Or.inl ⟨by rfl, ?_⟩) hHeld ?_
         rotate_left
         · intro W hSw
           (try dsimp only at hSw)
           go_simp
           (try with_reducible rfl)
         (try simp only [puS])
         refine wpAnyH_take (i := 5) (oi := _) (v := ?_) rfl (by kernel_rfl) (by kernel_rfl) (by kernel_rfl) (fun _ _ _ h => h) (Or.inl ⟨by rfl, ?_⟩) hHeld ?_
         rotate_left
         · intro W hSw
           (try dsimp only at hSw)
           go_simp
           (try with_reducible rfl)
         (try simp only [puS])
         refine wpAnyH_take (i := 6) (oi := _) (v := ?_) rfl (by kernel_rfl) (by kernel_rfl) (by kernel_rfl) (fun _ _ _ h => h) (Or.inl ⟨by rfl, ?_⟩) hHeld ?_
         rotate_left
         · intro W hSw
           (try dsimp only at hSw)
           go_simp
           (try with_reducible rfl)
         (try simp only [puS])
         refine wpAnyH_take (i := 7) (oi := _) (v := ?_) rfl (by kernel_rfl) (by kernel_rfl) (by kernel_rfl) (fun _ _ _ h => h) (Or.inl ⟨by rfl, ?_⟩) hHeld ?_
         rotate_left
         · intro W hSw
           (try dsimp only at hSw)
           go_simp
           (try with_reducible rfl)
         (try simp only [puS])
         refine wpAnyH_take (i := 8) (oi := _) (v := ?_) rfl (by kernel_rfl) (by kernel_rfl) (by kernel_rfl) (fun _ _ _ h => h) (Or.inl ⟨by rfl, ?_⟩) hHeld ?_
         rotate_left
         · intro W hSw
           (try dsimp only at hSw)
           go_simp
           (try with_reducible rfl)
         (try simp only [puS])
         refine wpAnyH_ready (rs := [9]) (by kernel_rfl) (by simp) ?_
         refine AllReadyH.cons (o := _) rfl (fun K hK => ?_) AllReadyH.nil
         go_simp
         skip
         refine hK.out _ _ (TC.out _ _ _ _ B2.out) (fun hHeld => ?_)
         clear hK K
         (try simp only [puS])
         refine wpAnyH_ready (rs := [10]) (by kernel_rfl) (by simp) ?_
         refine AllReadyH.cons (o := _) rfl (fun K hK => ?_) AllReadyH.nil
         go_simp
         skip
         refine hK.out _ _ (TC.out _ _ _ _ B2.out) (fun hHeld => ?_)
         clear hK K
         (try simp only [puS])
         refine wpAnyH_take (i := 11) (oi := _) (v := ?_) rfl (by kernel_rfl) (by kernel_rfl) (by kernel_rfl) (fun _ _ _ h => h) (Or.inl ⟨by rfl, ?_⟩) hHeld ?_
         rotate_left
         · intro W hSw
           (try dsimp only at hSw)
           go_simp
           (try with_reducible rfl)
         (try simp only [puS])
         refine wpAnyH_ready (rs := [12]) (by kernel_rfl) (by simp) ?_
         refine AllReadyH.cons (o := _) rfl (fun K hK => ?_) AllReadyH.nil
         go_simp
         skip
         refine hK.out _ _ (TC.out _ _ _ _ B3.out) (fun hHeld => ?_)
         clear hK K
         (try simp only [puS])
         refine wpAnyH_done (by kernel_rfl) ?_ _
         clear hHeld
         go_wp2
         go_roundw
         case rel =>
           refine ⟨k + 1, _, by go_num, by omega, B3, hid (fun j hj => ?_)⟩
           by_cases hjk : j = k
           · subst hjk
             rw [List.getElem?_set_self (by have hl : vs.length = n * 1 := HB.out.1.2.1.1; omega), hb.out]
           · rw [List.getElem?_set_ne (Ne.symm hjk)]
             exact HV.out j (by omega)
         case measure => simp [intOf]; omega
       · have hkk : ¬ ((k : Int) < (n : Int)) := by omega
         have HV2 : Hid (∀ j, j < n → vs[j]? = some (.string ⟨#[0, UInt8.ofNat j]⟩)) := hid (fun j hj => HV.out j (by omega))
         clear HV hkn hk
         go_wp2
         rw [rounds_succ]
         go_wp2
         have C0 := hid HB.out.extR_begin
         clear HB
         refine wp_loop_rounds 2 ?_
         rw [rounds_succ]
         go_wp2
         clear tc1
         go_loopw [17, 18] (fun u17 u18 wr2 => ∃ (j2 : Nat) (v2 : Option Addr) (c2 : Nat) (us2 : List Value), u17 = .slice v2 (n + j2) c2 ∧ u18 = .int .i64 (j2 : Int) ∧ j2 ≤ 9 ∧ Hid (All (extR 9 1 (.slice ia n ic) n vs (.slice v2 (n + j2) c2) (n + j2) us2 :: RT) wr2)) (fun _ u18 _ => 10 - (intOf u18).toNat)
         case atStart => exact ⟨0, _, _, _, rfl, rfl, by omega, C0⟩
         case round =>
           clear C0
           obtain ⟨j2, v2, c2, us2, rfl, rfl, hj2, HC⟩ := hrel
           by_cases hj29 : j2 < 9
           · obtain ⟨si, hsi, sz0, sz1', sz2⟩ := info_parts inf9
             have RT7 : Hid (∃ g cap w', (Builtin.append_ #[27, 27] 27 #[.slice v2 (n + j2) c2, .slice (some ⟨wr.heap.size, 0, none⟩) 1 1]).run Tryz.prog (wr.alloc (.cells #[.string ⟨#[109, 111, 114, 101]⟩] 9)) = .ok (.slice (some ⟨g, 0, none⟩) (n + j2 + 1) cap) w' ∧ All (extR 9 1 (.slice ia n ic) n vs (.slice (some ⟨g, 0, none⟩) (n + j2 + 1) cap) (n + j2 + 1) (us2 ++ [.string ⟨#[109, 111, 114, 101]⟩]) :: RT) w') := hid (by
               have HC2 := HC.out.alloc (.cells #[.string ⟨#[109, 111, 114, 101]⟩] 9)
               obtain ⟨g, cap, w', hr, h2, h3, h4⟩ := append_two (P := Tryz.prog) (wr.alloc (.cells #[.string ⟨#[109, 111, 114, 101]⟩] 9)) 27 9 si _ 1 16 Tryz.underlying27 hsi sz0 sz1' sz2 rfl (by decide) (.slice v2 (n + j2) c2) (n + j2) us2 HC2.1.2.1.2.1 ⟨wr.heap.size, 0, none⟩ 1 1 [.string ⟨#[109, 111, 114, 101]⟩] rfl (fun q u hu => by
                 rw [Addr.add_lit, Nat.zero_add]
                 have hg := heap_alloc_new wr (.cells #[.string ⟨#[109, 111, 114, 101]⟩] 9)
                 rw [cell_at hg]
                 simpa using hu) (fun u hu => by simp only [List.mem_singleton] at hu; subst hu; rfl) (by decide) (by unfold maxLen; omega) (by omega)
               exact ⟨g, cap, w', hr, HC2.extR_grow h2 h3 h4⟩)
             obtain ⟨g7, cap7, w8, hr8, hA8⟩ := RT7.out
             have C9 := hid hA8
             have hjj : (j2 : Int) < 9 := by omega
             have wj : IntKind.i64.wrap ((j2 : Int) + 1) = ((j2 + 1 : Nat) : Int) := by rw [IntKind.wrap_i64]; omega
             clear RT7 hA8 HC si hsi sz0 sz1' sz2
             go_wp2_with (at_builtin; refine wpList_append_run rfl _ _ 27 rfl _ _ _ _ rfl rfl hr8 ?_)
             refine ⟨⟨j2 + 1, _, cap7, _, rfl, rfl, by omega, C9⟩, ?_⟩
             simp only [intOf]; omega
           · have hjn2 : ¬ ((j2 : Int) < 9) := by omega
             have TC2 : Hid (∀ W (D : List Comp), All (extR 9 1 (.slice ia n ic) n vs (.slice v2 (n + j2) c2) (n + j2) us2 :: (D ++ RT)) W → W.cell? ⟨gT, 0, none⟩ = some (.slice ia n ic)) := hid (fun W D h => by
               have h2 := h.tail
               have h3 : All RT W := dropA h2
               exact TC.out W (.slice none 0 0) 0 [] h3.addRow0)
             have tc2 := TC2.out wr [] HC.out
             go_wp2
             rw [rounds_succ]
             go_wp2
             refine wp_loop_rounds 2 ?_
             rw [rounds_succ]
             go_wp2
             go_loopw [20] (fun u20 wr3 => ∃ k3 : Nat, u20 = .int .i64 (k3 : Int) ∧ k3 ≤ n ∧ Hid (All (extR 9 1 (.slice ia n ic) n vs (.slice v2 (n + j2) c2) (n + j2) us2 :: RT) wr3)) (fun u20 _ => n + 1 - (intOf u20).toNat)
             case atStart => exact ⟨0, rfl, Nat.zero_le _, HC⟩
             case round =>
               clear HC tc2
               obtain ⟨k3, rfl, hk3, HE⟩ := hrel
               have tc3 := TC2.out wr [] HE.out
               by_cases hk3n : k3 < n
               · have hki : (k3 : Int) < (n : Int) := by omega
                 obtain ⟨gi, rfl⟩ : ∃ gi, ia = some ⟨gi, 0, none⟩ := by
                   obtain ⟨ao, cc, e0, e1⟩ := HE.out.1.2.1.1
                   simp only [Value.slice.injEq, true_and] at e0
                   rcases e1 with e1 | ⟨g, e1, _⟩
                   · have := HV2.out k3 hk3n
                     rw [e1] at this
                     simp at this
                   · exact ⟨g, by rw [e0.1, e1]⟩
                 obtain ⟨b, hb⟩ : ∃ b : UInt8, Hid (b = UInt8.ofNat k3) := ⟨_, hid rfl⟩
                 have wu : IntKind.u8.wrap (k3 : Int) = (b.toNat : Int) := by rw [IntKind.wrap_u8, hb.out]; simp
                 have z0 : IntKind.u8.wrap 0 = 0 := by decide
                 have wk : IntKind.i64.wrap ((k3 : Int) + 1) = ((k3 + 1 : Nat) : Int) := by rw [IntKind.wrap_i64]; omega
                 have E2 := hid ((HE.out.alloc (.cells #[.int .u8 0, .int .u8 (b.toNat : Int)] 5)).drew)
                 have cvf : (convert 32 9 (.slice (some ⟨wr.heap.size, 0, none⟩) 2 2)).run Tryz.prog ((wr.alloc (.cells #[.int .u8 0, .int .u8 (b.toNat : Int)] 5)).drew) = .ok (.string ⟨#[0, b]⟩) ((wr.alloc (.cells #[.int .u8 0, .int .u8 (b.toNat : Int)] 5)).drew) := conv_string (l := [0, b]) ⟨_, _, rfl, Nat.le_refl _, Or.inr ⟨wr.heap.size, 0, rfl, Nat.lt_of_lt_of_eq (Nat.lt_succ_self wr.heap.size) (szQ wr _).symm, fun j u hu => by
                   rw [Nat.zero_add]
                   have hg := heap_alloc_new wr (.cells #[.int .u8 0, .int .u8 (b.toNat : Int)] 5)
                   refine (cell_at (w := (wr.alloc (.cells #[.int .u8 0, .int .u8 (b.toNat : Int)] 5)).drew) (b := wr.heap.size) hg j).trans ?_
                   simpa [cellsB] using hu⟩⟩
                 have hv3 : vs[k3]? = some (.string ⟨#[0, b]⟩) := by rw [hb.out]; exact HV2.out k3 hk3n
                 have SS : Hid (∀ W (D : List Comp), All (extR 9 1 (.slice (some ⟨gi, 0, none⟩) n ic) n vs (.slice v2 (n + j2) c2) (n + j2) us2 :: (D ++ RT)) W → W.cell? ⟨gT, 0, none⟩ = some (.slice (some ⟨gi, 0, none⟩) n ic) ∧ W.cell? ⟨gi, k3, none⟩ = some (.string ⟨#[0, b]⟩)) := hid (fun W D h => ⟨TC2.out W D h, h.1.2.1.1.cell hv3⟩)
                 go_upto_region 55 with fail
                 clear tc3
                 skip
                 refine wp_region_held_drew (S := (fun W => W.cell? ⟨gT, 0, none⟩ = some (.slice (some ⟨gi, 0, none⟩) n ic) ∧ W.cell? ⟨gi, k3, none⟩ = some (.string ⟨#[0, b]⟩))) (by kernel_rfl) (SS.out _ [] HE.out.drew) (fun hHeld => ?_)
                 refine wpAnyH_take (i := 0) (oi := _) (v := ?_) rfl (by kernel_rfl) (by kernel_rfl) (by kernel_rfl) (fun _ _ _ h => h) (Or.inl ⟨by rfl, ?_⟩) hHeld ?_
                 rotate_left
                 · intro W hSw
                   (try dsimp only at hSw)
                   go_simp
                   (try with_reducible rfl)
                 (try simp only [puS])
                 refine wpAnyH_take (i := 1) (oi := _) (v := ?_) rfl (by kernel_rfl) (by kernel_rfl) (by kernel_rfl) (fun _ _ _ h => h) (Or.inl ⟨by rfl, ?_⟩) hHeld ?_
                 rotate_left
                 · intro W hSw
                   (try dsimp only at hSw)
                   go_simp
                   (try with_reducible rfl)
                 (try simp only [puS])
                 refine wpAnyH_take (i := 2) (oi := _) (v := ?_) rfl (by kernel_rfl) (by kernel_rfl) (by kernel_rfl) (fun _ _ _ h => h) (Or.inl ⟨by rfl, ?_⟩) hHeld ?_
                 rotate_left
                 · intro W hSw
                   (try dsimp only at hSw)
                   go_simp
                   (try with_reducible rfl)
                 (try simp only [puS])
                 refine wpAnyH_take (i := 3) (oi := _) (v := ?_) rfl (by kernel_rfl) (by kernel_rfl) (by kernel_rfl) (fun _ _ _ h => h) (Or.inl ⟨by rfl, ?_⟩) hHeld ?_
                 rotate_left
                 · intro W hSw
                   (try dsimp only at hSw)
                   go_simp
                   (try with_reducible rfl)
                 (try simp only [puS])
                 refine wpAnyH_take (i := 4) (oi := _) (v := ?_) rfl (by kernel_rfl) (by kernel_rfl) (by kernel_rfl) (fun _ _ _ h => h) (Or.inl ⟨by rfl, ?_⟩) hHeld ?_
                 rotate_left
                 · intro W hSw
                   (try dsimp only at hSw)
                   go_simp
                   (try with_reducible rfl)
                 (try simp only [puS])
                 refine wpAnyH_take (i := 5) (oi := _) (v := ?_) rfl (by kernel_rfl) (by kernel_rfl) (by kernel_rfl) (fun _ _ _ h => h) (Or.inl ⟨by rfl, ?_⟩) hHeld ?_
                 rotate_left
                 · intro W hSw
                   (try dsimp only at hSw)
                   go_simp
                   (try with_reducible rfl)
                 (try simp only [puS])
                 refine wpAnyH_take (i := 6) (oi := _) (v := ?_) rfl (by kernel_rfl) (by kernel_rfl) (by kernel_rfl) (fun _ _ _ h => h) (Or.inl ⟨by rfl, ?_⟩) hHeld ?_
                 rotate_left
                 · intro W hSw
                   (try dsimp only at hSw)
                   go_simp
                   (try with_reducible rfl)
                 (try simp only [puS])
                 refine wpAnyH_take (i := 7) (oi := _) (v := ?_) rfl (by kernel_rfl) (by kernel_rfl) (by kernel_rfl) (fun _ _ _ h => h) (Or.inl ⟨by rfl, ?_⟩) hHeld ?_
                 rotate_left
                 · intro W hSw
                   (try dsimp only at hSw)
                   go_simp
                   (try with_reducible rfl)
                 (try simp only [puS])
                 refine wpAnyH_take (i := 8) (oi := _) (v := ?_) rfl (by kernel_rfl) (by kernel_rfl) (by kernel_rfl) (fun _ _ _ h => h) (Or.inl ⟨by rfl, ?_⟩) hHeld ?_
                 rotate_left
                 · intro W hSw
                   (try dsimp only at hSw)
                   go_simp
                   (try with_reducible rfl)
                 (try simp only [puS])
                 refine wpAnyH_take (i := 9) (oi := _) (v := ?_) rfl (by kernel_rfl) (by kernel_rfl) (by kernel_rfl) (fun _ _ _ h => h) (Or.inl ⟨by rfl, ?_⟩) hHeld ?_
                 rotate_left
                 · intro W hSw
                   (try dsimp only at hSw)
                   go_simp
                   (try with_reducible rfl)
                 (try simp only [puS])
                 refine wpAnyH_take (i := 10) (oi := _) (v := ?_) rfl (by kernel_rfl) (by kernel_rfl) (by kernel_rfl) (fun _ _ _ h => h) (Or.inl ⟨by rfl, ?_⟩) hHeld ?_
                 rotate_left
                 · intro W hSw
                   (try dsimp only at hSw)
                   go_simp
                   (try with_reducible rfl)
                 (try simp only [puS])
                 refine wpAnyH_ready (rs := [11]) (by kernel_rfl) (by simp) ?_
                 refine AllReadyH.cons (o := _) rfl (fun K hK => ?_) AllReadyH.nil
                 go_simp
                 skip
                 refine hK.out _ _ (SS.out _ [] E2.out) (fun hHeld => ?_)
                 clear hK K
                 (try simp only [puS])
                 refine wpAnyH_ready (rs := [12]) (by kernel_rfl) (by simp) ?_
                 refine AllReadyH.cons (o := _) rfl (fun K hK => ?_) AllReadyH.nil
                 go_simp
                 skip
                 refine hK.out _ _ (SS.out _ [] E2.out) (fun hHeld => ?_)
                 clear hK K
                 (try simp only [puS])
                 refine wpAnyH_take (i := 13) (oi := _) (v := ?_) rfl (by kernel_rfl) (by kernel_rfl) (by kernel_rfl) (fun _ _ _ h => h) (Or.inl ⟨by rfl, ?_⟩) hHeld ?_
                 rotate_left
                 · intro W hSw
                   (try dsimp only at hSw)
                   go_simp
                   (try with_reducible rfl)
                 (try simp only [puS])
                 refine wpAnyH_done (by kernel_rfl) ?_ _
                 clear hHeld
                 go_wp2
                 go_roundw
                 case rel => exact ⟨k3 + 1, by go_num, by omega, hid E2.out⟩
                 case measure => simp [intOf]; omega
               · have hkk3 : ¬ ((k3 : Int) < (n : Int)) := by omega
                 go_wp2
                 rw [rounds_succ]
                 go_wp2
                 clear tc3
                 have hF := HE.out
                 rw [hRT.out] at hF
                 have F2 : Hid (All (blkC H2 [.slice (some ⟨H1, 0, none⟩) 1 1] 42 :: boxC S ov wv :: slC ov [.slice da data.length dc] :: slC wv [m] :: byR (.slice da data.length dc) data :: byR m data :: cs) wr) := hid (hF.perm (List.perm_middle (l₁ := [_, _, _, _, _, _, _, _]))).swap.tail.swap.tail.swap.tail
                 clear hF HE hRT TC TC2 HV2
                 obtain ⟨i5, z5, bs5⟩ := bs36 (evQ (-5))
                 have BS5 := hid bs5
                 have F3 := hid (F2.out.addBlk (evQ (-5)).cells 36)
                 have h2c := cell_in (C := [.slice (some ⟨H1, 0, none⟩) 1 1]) F3.out (P := H2) (t := 42) (o := 0) (List.mem_cons_of_mem _ List.mem_cons_self) rfl
                 have h2f := free_at (F3.out.blk (g := H2) (vs := [.slice (some ⟨H1, 0, none⟩) 1 1]) (t := 42) (List.mem_cons_of_mem _ List.mem_cons_self)) 0
                 have F4 : Hid (All (blkC H2 [.slice (some ⟨wr.heap.size, 0, none⟩) 1 1] 42 :: blkC wr.heap.size (evQ (-5)).cells 36 :: boxC S ov wv :: slC ov [.slice da data.length dc] :: slC wv [m] :: byR (.slice da data.length dc) data :: byR m data :: cs) ((wr.alloc (.cells (evQ (-5)).cells.toArray 36)).setCell ⟨H2, 0, none⟩ (.slice (some ⟨wr.heap.size, 0, none⟩) 1 1))) := hid (F3.out.swap.setBlk 0 (.slice (some ⟨wr.heap.size, 0, none⟩) 1 1))
                 clear bs5
                 refine wp_loop_rounds 2 ?_
                 rw [rounds_succ]
                 go_upto_region 60 with (first | (refine wpList_build rfl 36 _ rfl (by kernel_rfl) ?_) | (refine wpList_buildSlice rfl 42 36 1 _ rfl (evQ (-5)).cells.toArray i5 z5 und42 BS5.out.i BS5.out.o BS5.out.s BS5.out.p (fill_of BS5.out.f (by kernel_rfl)) ?_))
                 generalize World.setCell _ _ _ = w11 at *
                 generalize wr.heap.size = D5 at *
                 clear F2 F3 h2c h2f
                 go_wp2
                 rw [rounds_succ]
                 go_wp2
                 obtain ⟨R5, hR5⟩ : ∃ R, Hid (R = blkC D5 (evQ (-5)).cells 36 :: boxC S ov wv :: slC ov [.slice da data.length dc] :: slC wv [m] :: byR (.slice da data.length dc) data :: byR m data :: cs) := ⟨_, hid rfl⟩
                 have F5 : Hid (All (rowC 42 1 (.slice (some ⟨H2, 0, none⟩) 1 1) 1 (.slice (some ⟨D5, 0, none⟩) 1 1 :: []) :: R5) w11) := hid (by rw [hR5.out]; exact row_of_blk (n := 1) (size := 1) F4.out rfl (by omega))
                 clear F4
                 go_loopw [0, 23] (fun u0 u23 wr4 => ∃ (j4 : Nat) (a4 : Option Addr) (c4 : Nat) (us4 : List Value), u0 = .slice a4 (1 + j4) c4 ∧ u23 = .int .i64 (j4 : Int) ∧ j4 ≤ 9 ∧ Hid (All (rowC 42 1 (.slice a4 (1 + j4) c4) (1 + j4) (.slice (some ⟨D5, 0, none⟩) 1 1 :: us4) :: R5) wr4)) (fun _ u23 _ => 10 - (intOf u23).toNat)
                 case atStart => exact ⟨0, _, _, [], rfl, rfl, by omega, F5⟩
                 case round =>
                   clear F5
                   obtain ⟨j4, a4, c4, us4, rfl, rfl, hj4, HG⟩ := hrel
                   by_cases hj49 : j4 < 9
                   · obtain ⟨yi, hyi, yz0, yz1, yz2⟩ := info_parts Tryz.inf42
                     have RT9 : Hid (∃ ao cap w', (Builtin.append_ #[38, 38] 38 #[.slice a4 (1 + j4) c4, .slice (some ⟨wr.heap.size, 0, none⟩) 1 1]).run Tryz.prog (wr.alloc (.cells #[.slice none 0 0] 42)) = .ok (.slice ao (1 + j4 + 1) cap) w' ∧ All (rowC 42 1 (.slice ao (1 + j4 + 1) cap) (1 + j4 + 1) (.slice (some ⟨D5, 0, none⟩) 1 1 :: (us4 ++ [.slice none 0 0])) :: R5) w') := hid (by
                       obtain ⟨ao, cap, w', hr, hA⟩ := appN (c := 1) (news := [.slice none 0 0]) (m := 1) und38 hyi yz0 yz1 yz2 rfl (by decide) (HG.out.alloc (.cells #[.slice none 0 0] 42)) (some ⟨wr.heap.size, 0, none⟩) rfl (fun _ => ⟨_, rfl, fun q u hu => by
                         rw [Addr.add_lit, Nat.zero_add]
                         have hg := heap_alloc_new wr (.cells #[.slice none 0 0] 42)
                         rw [cell_at hg]
                         simpa using hu⟩) (fun u hu => by simp only [List.mem_singleton] at hu; subst hu; rfl) (by unfold maxLen; omega) (by omega)
                       exact ⟨ao, cap, w', hr, hA⟩)
                     obtain ⟨ao, cap, w12, hr12, hA12⟩ := RT9.out
                     have G9 := hid hA12
                     have hjj : (j4 : Int) < 9 := by omega
                     have wj : IntKind.i64.wrap ((j4 : Int) + 1) = ((j4 + 1 : Nat) : Int) := by rw [IntKind.wrap_i64]; omega
                     clear RT9 hA12 HG yi hyi yz0 yz1 yz2
                     go_wp2_with (at_builtin; refine wpList_append_run rfl _ _ 38 rfl _ _ _ _ rfl rfl hr12 ?_)
                     refine ⟨⟨j4 + 1, ao, cap, _, rfl, rfl, by omega, G9⟩, ?_⟩
                     simp only [intOf]; omega
                   · have hjn4 : ¬ ((j4 : Int) < 9) := by omega
                     have hj1 : (0 : Int) < ((1 + j4 : Nat) : Int) := by omega
                     obtain ⟨g4, e4, _, l0⟩ := row_at (k := 0) (u := .slice (some ⟨D5, 0, none⟩) 1 1) (show wr.ownsRow 0 42 1 (.slice a4 (1 + j4) c4) (1 + j4) (.slice (some ⟨D5, 0, none⟩) 1 1 :: us4) from HG.out.1.2.1) rfl
                     subst e4
                     have l1 : wr.cell? ⟨D5, 1, none⟩ = some (.int .i64 (-5)) := cell_in (C := (evQ (-5)).cells) HG.out (P := D5) (t := 36) (o := 1) (by rw [hR5.out]; simp) rfl
                     have SPL : Hid (Calls Tryz.prog 39 #[.pointer (some ⟨S, 0, none⟩)] wr fun e w' => e = .returned (.bool true) ∧ All cs w') := hid (by
                       have hg := HG.out
                       rw [hR5.out] at hg
                       have hA : All (boxC S ov wv :: slC ov [.slice da data.length dc] :: slC wv [m] :: (byRs [⟨.slice da data.length dc, m, data, data⟩] ++ cs)) wr := hg.tail.tail
                       refine (spoil_any (es := [⟨.slice da data.length dc, m, data, data⟩]) ⟨hA, rfl, rfl, fun e he => by simp only [List.mem_singleton] at he; subst he; exact ⟨rfl, by show data.length ≤ _; omega⟩⟩ (by simp)).mono ?_
                       rintro e w' ⟨he, ov', wv', es2, _, hE⟩
                       exact ⟨he, hE.all.tail.tail.tail.tail⟩)
                     go_wp2
                     refine wp_loop_rounds 2 ?_
                     rw [rounds_succ]
                     go_wp2
                     rw [rounds_succ]
                     go_wp2_with (go_at_call 39; refine SPL.out.mono ?_; rintro r w13 ⟨rfl, hcs⟩; have HCS := hid hcs; clear hcs)
                     go_ret
                     exact ⟨rfl, HCS.out⟩
end Go.Proofs.YtfeppannfcbakaaGreatDoor

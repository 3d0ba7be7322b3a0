import Derived.Test.YtfeppannfcbakaaGreatDoorJ13
namespace Go.Proofs.YtfeppannfcbakaaGreatDoor
open Go.RowKit
set_option linter.unusedVariables false
set_option maxRecDepth 1000000
set_option maxHeartbeats 12800000
theorem revent_f {R g c : Nat} {l : Ws} {k : Nat} {x : Int} {cs : List Comp} {w : World} (hk : k ≤ l.length) (hl16 : l.length * 16 ≤ 140737488355328) (hs : ∀ y ∈ l, y.length ≤ 140737488355328) (hS : ∀ W, All cs W → Rt W (.slice (some ⟨g, 0, none⟩) l.length c) l) (hq : kdP (dW l k x) 12 = 6) (A : All (rdB R (.slice (some ⟨g, 0, none⟩) l.length c) k x :: cs) w) :
   Calls Tryz.prog 74 #[.pointer (some ⟨R, 0, none⟩)] w (DEPost 6 R (.slice (some ⟨g, 0, none⟩) l.length c) l (dK l k x) (dX l k x) cs) := by
 have hl : l.length ≤ 140737488355328 := by omega
 obtain ⟨q, eq⟩ : ∃ v, Hid (v = dW l k x) := ⟨_, hid rfl⟩
 obtain ⟨k1, ek1⟩ : ∃ v, Hid (v = dK l k x) := ⟨_, hid rfl⟩
 obtain ⟨xw, exw⟩ : ∃ v, Hid (v = dX l k x) := ⟨_, hid rfl⟩
 rw [← eq.out] at hq
 have HQ := hid hq
 clear hq
 rw [← ek1.out, ← exw.out]
 have WRD : Hid (∀ (k : Nat) (x : Int) (c1 c2 : Comp) W, k ≤ l.length → All (rdB R (.slice (some ⟨g, 0, none⟩) l.length c) k x :: c1 :: c2 :: cs) W → Calls Tryz.prog 107 #[.pointer (some ⟨R, 0, none⟩)] W fun r w' => r = .returned (.string ⟨(dW l k x).toArray⟩) ∧ All (rdB R (.slice (some ⟨g, 0, none⟩) l.length c) (dK l k x) (dX l k x) :: c1 :: c2 :: cs) w') := hid (fun k x c1 c2 W hk h => rword_any hk hl (fun V hV => hS V hV.tail.tail) h)
 have FAI : Hid (∀ (k : Nat) (x : Int) (ds : List Comp) W, All (rdB R (.slice (some ⟨g, 0, none⟩) l.length c) k x :: ds) W → Calls Tryz.prog 75 #[.pointer (some ⟨R, 0, none⟩), .int .i64 190] W fun r w' => r = .returned (.tuple #[]) ∧ All (rdB R (.slice (some ⟨g, 0, none⟩) l.length c) k (flE x 190) :: ds) w') := hid (fun k x ds W h => rfail_any h)
 have NUM : Hid (∀ (k : Nat) (x : Int) (c1 c2 : Comp) W, k ≤ l.length → All (rdB R (.slice (some ⟨g, 0, none⟩) l.length c) k x :: c1 :: c2 :: cs) W → Calls Tryz.prog 108 #[.pointer (some ⟨R, 0, none⟩)] W fun r w' => r = .returned (.int .i64 (dN l k x)) ∧ All (rdB R (.slice (some ⟨g, 0, none⟩) l.length c) (dK l k x) (dNX l k x) :: c1 :: c2 :: cs) w') := hid (fun k x c1 c2 W hk h => rnumber_any hk hl hs (fun V hV => hS V hV.tail.tail) h)
 have OPR : Hid (∀ (k : Nat) (x : Int) (c1 c2 : Comp) W, k ≤ l.length → All (rdB R (.slice (some ⟨g, 0, none⟩) l.length c) k x :: c1 :: c2 :: cs) W → Calls Tryz.prog 109 #[.pointer (some ⟨R, 0, none⟩)] W fun e w' => e = .returned (opV (dO l k x).o.k ⟨(dO l k x).o.nm.toArray⟩ ⟨(dO l k x).o.tx.toArray⟩ ((dO l k x).o.n : Int) ((dO l k x).o.m : Int)) ∧ All (rdB R (.slice (some ⟨g, 0, none⟩) l.length c) (k + (dO l k x).k) (flE x (dO l k x).e) :: c1 :: c2 :: cs) w') := hid (fun k x c1 c2 W hk h => rop_doc hk hl hs (fun V hV => hS V hV.tail.tail) h)
 have RSR : Hid (∀ (k : Nat) (x : Int) (c1 c2 : Comp) W, k ≤ l.length → All (rdB R (.slice (some ⟨g, 0, none⟩) l.length c) k x :: c1 :: c2 :: cs) W → Calls Tryz.prog 110 #[.pointer (some ⟨R, 0, none⟩)] W fun e w' => ∃ va vc, e = .returned (.agg #[.int .i64 (dR l k x).c, .int .i64 (dR l k x).n, .slice va (dR l k x).items.length vc]) ∧ All (ownC 9 (.slice va (dR l k x).items.length vc) (txW (dR l k x).items) :: rdB R (.slice (some ⟨g, 0, none⟩) l.length c) (k + (dR l k x).k) (flE x (dR l k x).e) :: c1 :: c2 :: cs) w') := hid (fun k x c1 c2 W hk h => rres_doc hk hl16 hs (fun V hV => hS V hV.tail.tail) h)
 have LEO : Hid (∀ (k : Nat) (x : Int), k ≤ l.length → k + (dO l k x).k ≤ l.length) := hid (fun k x hk => dO_le hk)
 have LEK : Hid (∀ (k : Nat) (x : Int), k ≤ l.length → dK l k x ≤ l.length) := hid (fun k x hk => dK_le hk)
 have A1 := hid (((A.addBlk zC 36).addBlk zC 36).perm (List.perm_middle (l₁ := [_, _])))
 have sz : ∀ (V : World) (o : Obj), (V.alloc o).heap.size = V.heap.size + 1 := fun V o => by simp
 rw [sz] at A1
 have I36 : Hid ((Tryz.prog.info? 36).map (·.size) = some (zC.toArray : Array Value).size) := hid (by kernel_rfl)
 have O36 : Hid ((zC.toArray : Array Value).all (·.oneCell') = true) := hid (by kernel_rfl)
 have K0 := hid ((A1.out.swap.setRow (vs' := zC)).swap)
 have HBn := hid (A1.out.blk (g := w.heap.size + 1) (t := 36) (List.mem_cons_of_mem _ List.mem_cons_self))
 clear A hS hs sz A1
 go_enter Tryz.func74, Tryz.ntmps74
 go_upto_region 2 with (refine wpList_store_row rfl 36 _ _ rfl (w.heap.size + 1) zC.toArray rfl rfl 36 _ HBn.out I36.out rfl O36.out ?_)
 generalize World.setRow _ _ _ = wa0 at *
 clear HBn I36 O36
 have CW := hid (WRD.out k x _ _ _ hk K0.out)
 have hk1 : k1 ≤ l.length := by rw [ek1.out]; exact dK_le hk
 rw [← eq.out, ← ek1.out, ← exw.out] at CW
 go_upto_region 3 with (go_at_call 107; refine CW.out.mono ?_; rintro r w2 ⟨rfl, B2⟩; have K2 := hid B2; clear B2)
 have hz : (Ev.zero (kdP q 1)).cells = (Ev.zero 0).cells := by unfold kdP; simp [kdP]
 have K3 : Hid (All (rdB R (.slice (some ⟨g, 0, none⟩) l.length c) k1 xw :: blkC (w.heap.size + 1) (Ev.zero (kdP q 1)).cells 36 :: blkC w.heap.size (Ev.zero 0).cells 36 :: cs) w2) := hid (by rw [hz]; exact K2.out)
 have SET : Hid (∀ (a b : Int), (Ev.zero a).cells.set 0 (.int .i64 b) = (Ev.zero b).cells) := hid (fun _ _ => rfl)
 have GET : Hid (∀ a : Int, (Ev.zero a).cells[0]? = some (.int .i64 a)) := hid (fun _ => rfl)
 clear hz K2 CW K0
 go_wp2
 go_loopw [5] (fun iv wr => ∃ i : Nat, 1 ≤ i ∧ i ≤ 12 ∧ iv = .int .i64 (i : Int) ∧ Hid (All (rdB R (.slice (some ⟨g, 0, none⟩) l.length c) k1 xw :: blkC (w.heap.size + 1) (Ev.zero (kdP q i)).cells 36 :: blkC w.heap.size (Ev.zero 0).cells 36 :: cs) wr)) (fun iv _ => 13 - (intOf iv).toNat)
 case atStart => exact ⟨1, by omega, by omega, rfl, K3⟩
 case round =>
   obtain ⟨i, h1, h4, rfl, HK⟩ := hrel
   clear K3
   by_cases hi : i ≤ 11
   · have hi' : (i : Int) ≤ 11 := by omega
     have cS := hid (word_any (i : Int) wr)
     by_cases hq : q = wordN (i : Int)
     · have hq' : ((⟨q.toArray⟩ : ByteArray).toList == (⟨(wordN (i : Int)).toArray⟩ : ByteArray).toList) = true := by rw [ba_ne]; simpa using hq
       have hst : kdP q (i + 1) = (i : Int) := by rw [kdP, if_pos ⟨by omega, hq⟩]
       have c1 := hid (fun W (h : Below wr.heap.size wr W) => cell_in (HK.out.later h) (P := w.heap.size + 1) (t := 36) (o := 0) (List.mem_cons_of_mem _ List.mem_cons_self) (GET.out _))
       have f1 := hid (fun W (h : Below wr.heap.size wr W) => free_at ((HK.out.later h).blk (g := w.heap.size + 1) (t := 36) (List.mem_cons_of_mem _ List.mem_cons_self)) 0)
       generalize ByteArray.mk q.toArray = X at *
       generalize ByteArray.mk (wordN (i : Int)).toArray = Y at *
       go_wp2_with (go_at_call 60; refine cS.out.mono ?_; rintro r w5 ⟨rfl, B5⟩; have HL := hid B5; have d1 := c1.out _ B5; have g1 := f1.out _ B5; clear B5)
       go_roundw
       case rel => exact ⟨i + 1, by omega, by omega, by go_num, hid (by have h6 := ((HK.out.later HL.out).swap.setBlk 0 (.int .i64 (i : Int))).swap; rw [SET.out] at h6; rw [hst]; exact h6)⟩
       case measure => simp [intOf]; omega
     · have hq' : ((⟨q.toArray⟩ : ByteArray).toList == (⟨(wordN (i : Int)).toArray⟩ : ByteArray).toList) = false := by rw [ba_ne]; simpa using hq
       have hst : kdP q (i + 1) = kdP q i := by rw [kdP, if_neg (by simp [hq])]
       generalize ByteArray.mk q.toArray = X at *
       generalize ByteArray.mk (wordN (i : Int)).toArray = Y at *
       go_wp2_with (go_at_call 60; refine cS.out.mono ?_; rintro r w5 ⟨rfl, B5⟩; have HL := hid B5; clear B5)
       go_roundw
       case rel => exact ⟨i + 1, by omega, by omega, by go_num, hid (by rw [hst]; exact HK.out.later HL.out)⟩
       case measure => simp [intOf]; omega
   have i12 : i = 12 := by omega
   subst i12
   rw [HQ.out] at HK
   have c0 := cell_in HK.out (P := w.heap.size + 1) (t := 36) (o := 0) (List.mem_cons_of_mem _ List.mem_cons_self) (GET.out _)
   clear hi HQ eq SET
   go_upto_region 11 with fail
   clear c0
   have CN0 := hid (NUM.out k1 xw _ _ _ hk1 HK.out)
   go_upto_region 12 with (go_at_call 108; refine CN0.out.mono ?_; rintro r wb0 ⟨rfl, B⟩; have L0 := hid B; clear B; have cc0 := cell_in L0.out (P := w.heap.size + 1) (t := 36) (o := 1) (List.mem_cons_of_mem _ List.mem_cons_self) rfl; have ff0 := free_at (L0.out.blk (g := w.heap.size + 1) (t := 36) (List.mem_cons_of_mem _ List.mem_cons_self)) 1)
   have M0 := hid ((L0.out.swap.setBlk 1 (.int .i64 (dN l k1 xw))).swap)
   generalize World.setCell _ _ _ = wc0 at *
   clear cc0 ff0 L0 CN0 HK
   have c0 := cell_in M0.out (P := w.heap.size + 1) (t := 36) (o := 0) (List.mem_cons_of_mem _ List.mem_cons_self) (show ((Ev.zero 6).cells.set 1 (.int .i64 (dN l k1 xw)))[0]? = some (.int .i64 6) from rfl)
   obtain ⟨k2, ek2⟩ : ∃ v, Hid (v = dK l k1 xw) := ⟨_, hid rfl⟩
   obtain ⟨x2, ex2⟩ : ∃ v, Hid (v = dNX l k1 xw) := ⟨_, hid rfl⟩
   obtain ⟨C2, eC2⟩ : ∃ v, Hid (v = (Ev.zero 6).cells.set 1 (.int .i64 (dN l k1 xw))) := ⟨_, hid rfl⟩
   have hC2 : C2.length = 33 := by rw [eC2.out]; rfl
   have hk2 : k2 ≤ l.length := by rw [ek2.out]; exact LEK.out _ _ hk1
   rw [← ek2.out, ← ex2.out, ← eC2.out] at M0
   go_upto_region 32 with fail
   clear c0 GET
   have M2 := M0
   clear M0
   have hk2' := hk2
   obtain ⟨vo2, hvo2⟩ := some_at hC2 3 (by decide)
   have CN2 := hid (NUM.out k2 x2 _ _ _ hk2 M2.out)
   go_upto_region 33 with (go_at_call 108; refine CN2.out.mono ?_; rintro r wb2 ⟨rfl, B⟩; have L2 := hid B; clear B; have cc2 := cell_in L2.out (P := w.heap.size + 1) (t := 36) (o := 3) (List.mem_cons_of_mem _ List.mem_cons_self) hvo2; have ff2 := free_at (L2.out.blk (g := w.heap.size + 1) (t := 36) (List.mem_cons_of_mem _ List.mem_cons_self)) 3)
   have M3 := hid ((L2.out.swap.setBlk 3 (.int .i64 (dN l k2 x2))).swap)
   generalize World.setCell _ _ _ = wc2 at *
   clear cc2 ff2 L2 CN2 M2 hvo2 hk2'
   obtain ⟨k3, ek3⟩ : ∃ v, Hid (v = dK l k2 x2) := ⟨_, hid rfl⟩
   obtain ⟨x3, ex3⟩ : ∃ v, Hid (v = dNX l k2 x2) := ⟨_, hid rfl⟩
   obtain ⟨C3, eC3⟩ : ∃ v, Hid (v = C2.set 3 (.int .i64 (dN l k2 x2))) := ⟨_, hid rfl⟩
   have hC3 : C3.length = 33 := by rw [eC3.out, List.length_set]; exact hC2
   have hk3 : k3 ≤ l.length := by rw [ek3.out]; exact LEK.out _ _ hk2
   rw [← ek3.out, ← ex3.out, ← eC3.out] at M3
   obtain ⟨vo3, hvo3⟩ := some_at hC3 6 (by decide)
   obtain ⟨Q, eQ⟩ : ∃ v, Hid (v = dW l k3 x3) := ⟨_, hid rfl⟩
   have CN3 := hid (WRD.out k3 x3 _ _ _ hk3 M3.out)
   rw [← eQ.out] at CN3
   have q1 : ((⟨Q.toArray⟩ : ByteArray).toList == [102, 114, 101, 115, 104]) = decide (Q = [102, 114, 101, 115, 104]) := by rw [Lib.toList_data, Bool.eq_iff_iff]; simp
   have q2 : ((⟨Q.toArray⟩ : ByteArray).toList == [111, 108, 100]) = decide (Q = [111, 108, 100]) := by rw [Lib.toList_data, Bool.eq_iff_iff]; simp
   obtain ⟨k4, ek4⟩ : ∃ v, Hid (v = dK l k3 x3) := ⟨_, hid rfl⟩
   obtain ⟨xq, exq⟩ : ∃ v, Hid (v = dX l k3 x3) := ⟨_, hid rfl⟩
   have hk4 : k4 ≤ l.length := by rw [ek4.out]; exact LEK.out _ _ hk3
   rw [← ek4.out, ← exq.out] at CN3
   obtain ⟨B1, eB1⟩ : ∃ v, Hid (v = decide (Q = [102, 114, 101, 115, 104])) := ⟨_, hid rfl⟩
   obtain ⟨B2, eB2⟩ : ∃ v, Hid (v = decide (Q = [111, 108, 100])) := ⟨_, hid rfl⟩
   rw [← eB1.out] at q1
   rw [← eB2.out] at q2
   generalize ByteArray.mk Q.toArray = X at *
   go_upto_region 34 with (go_at_call 107; refine CN3.out.mono ?_; rintro r wb3 ⟨rfl, B⟩; have L3 := hid B; clear B)
   clear CN3 M3
   by_cases hb1 : B1 = true
   · subst hb1
     go_upto_region 36 with fail
     have N3 := L3
     obtain ⟨x4, ex4'⟩ : ∃ v, Hid (v = xq) := ⟨_, hid rfl⟩
     rw [← ex4'.out] at N3
     clear L3
     have ex4 : Hid (x4 = (dRd (.fre 6) l k3 x3).2.2) := hid (by rw [ex4'.out, exq.out]; show _ = if (decide (dW l k3 x3 = [102, 114, 101, 115, 104]) || decide (dW l k3 x3 = [111, 108, 100])) = true then dX l k3 x3 else flE (dX l k3 x3) 190; rw [← eQ.out, ← eB1.out]; rfl)
     have cc3 := cell_in N3.out (P := w.heap.size + 1) (t := 36) (o := 6) (List.mem_cons_of_mem _ List.mem_cons_self) hvo3
     have ff3 := free_at (N3.out.blk (g := w.heap.size + 1) (t := 36) (List.mem_cons_of_mem _ List.mem_cons_self)) 6
     have M4 := hid ((N3.out.swap.setBlk 6 (.bool true)).swap)
     go_upto_region 37 with fail
     generalize World.setCell _ _ _ = wc3 at *
     clear cc3 ff3 N3 ex4'
     obtain ⟨C4, eC4⟩ : ∃ v, Hid (v = C3.set 6 (.bool (decide (dW l k3 x3 = [102, 114, 101, 115, 104])))) := ⟨_, hid rfl⟩
     have eC4'' : C3.set 6 (.bool true) = C4 := by rw [eC4.out, ← eQ.out, ← eB1.out]
     have hC4 : C4.length = 33 := by rw [eC4.out, List.length_set]; exact hC3
     rw [eC4''] at M4
     clear eC4'' q1 q2 eB1 eB2 eQ exq
     have hk4' := hk4
     obtain ⟨vo4, hvo4⟩ := some_at hC4 12 (by decide)
     have CN4 := hid (NUM.out k4 x4 _ _ _ hk4 M4.out)
     go_upto_region 38 with (go_at_call 108; refine CN4.out.mono ?_; rintro r wb4 ⟨rfl, B⟩; have L4 := hid B; clear B; have cc4 := cell_in L4.out (P := w.heap.size + 1) (t := 36) (o := 12) (List.mem_cons_of_mem _ List.mem_cons_self) hvo4; have ff4 := free_at (L4.out.blk (g := w.heap.size + 1) (t := 36) (List.mem_cons_of_mem _ List.mem_cons_self)) 12)
     have M5 := hid ((L4.out.swap.setBlk 12 (.int .i64 (dN l k4 x4))).swap)
     generalize World.setCell _ _ _ = wc4 at *
     clear cc4 ff4 L4 CN4 M4 hvo4 hk4'
     obtain ⟨k5, ek5⟩ : ∃ v, Hid (v = dK l k4 x4) := ⟨_, hid rfl⟩
     obtain ⟨x5, ex5⟩ : ∃ v, Hid (v = dNX l k4 x4) := ⟨_, hid rfl⟩
     obtain ⟨C5, eC5⟩ : ∃ v, Hid (v = C4.set 12 (.int .i64 (dN l k4 x4))) := ⟨_, hid rfl⟩
     have hC5 : C5.length = 33 := by rw [eC5.out, List.length_set]; exact hC4
     have hk5 : k5 ≤ l.length := by rw [ek5.out]; exact LEK.out _ _ hk4
     rw [← ek5.out, ← ex5.out, ← eC5.out] at M5
     have hk5' := hk5
     obtain ⟨vo5, hvo5⟩ := some_at hC5 13 (by decide)
     have CN5 := hid (NUM.out k5 x5 _ _ _ hk5 M5.out)
     go_upto_region 39 with (go_at_call 108; refine CN5.out.mono ?_; rintro r wb5 ⟨rfl, B⟩; have L5 := hid B; clear B; have cc5 := cell_in L5.out (P := w.heap.size + 1) (t := 36) (o := 13) (List.mem_cons_of_mem _ List.mem_cons_self) hvo5; have ff5 := free_at (L5.out.blk (g := w.heap.size + 1) (t := 36) (List.mem_cons_of_mem _ List.mem_cons_self)) 13)
     have M6 := hid ((L5.out.swap.setBlk 13 (.int .i64 (dN l k5 x5))).swap)
     generalize World.setCell _ _ _ = wc5 at *
     clear cc5 ff5 L5 CN5 M5 hvo5 hk5'
     obtain ⟨k6, ek6⟩ : ∃ v, Hid (v = dK l k5 x5) := ⟨_, hid rfl⟩
     obtain ⟨x6, ex6⟩ : ∃ v, Hid (v = dNX l k5 x5) := ⟨_, hid rfl⟩
     obtain ⟨C6, eC6⟩ : ∃ v, Hid (v = C5.set 13 (.int .i64 (dN l k5 x5))) := ⟨_, hid rfl⟩
     have hC6 : C6.length = 33 := by rw [eC6.out, List.length_set]; exact hC5
     have hk6 : k6 ≤ l.length := by rw [ek6.out]; exact LEK.out _ _ hk5
     rw [← ek6.out, ← ex6.out, ← eC6.out] at M6
     have CN6 := hid (OPR.out k6 x6 _ _ _ hk6 M6.out)
     have IO6 : Hid ((Tryz.prog.info? 24).map (·.size) = some (#[.int .i64 (dO l k6 x6).o.k, .string ⟨(dO l k6 x6).o.nm.toArray⟩, .string ⟨(dO l k6 x6).o.tx.toArray⟩, .int .i64 ((dO l k6 x6).o.n : Int), .int .i64 ((dO l k6 x6).o.m : Int)] : Array Value).size) := hid (by kernel_rfl)
     have OO6 : Hid ((#[.int .i64 (dO l k6 x6).o.k, .string ⟨(dO l k6 x6).o.nm.toArray⟩, .string ⟨(dO l k6 x6).o.tx.toArray⟩, .int .i64 ((dO l k6 x6).o.n : Int), .int .i64 ((dO l k6 x6).o.m : Int)] : Array Value).all (·.oneCell') = true) := hid (by simp [Value.oneCell'])
     go_upto_region 40 with (first
       | (go_at_call 109; refine CN6.out.mono ?_; rintro r wb6 ⟨rfl, B⟩; have L6 := hid B; clear B; have TH6 : Hid (wb6.there (w.heap.size + 1) 14 5) := hid (fun z hz => ⟨by rw [cell_at (L6.out.blk (g := w.heap.size + 1) (vs := C6) (t := 36) (List.mem_cons_of_mem _ List.mem_cons_self)), List.getElem?_toArray, List.getElem?_eq_getElem (by omega)]; rfl, free_at (L6.out.blk (g := w.heap.size + 1) (vs := C6) (t := 36) (List.mem_cons_of_mem _ List.mem_cons_self)) _⟩))
       | (refine wpList_store_mid rfl 24 _ _ rfl (w.heap.size + 1) 14 #[.int .i64 (dO l k6 x6).o.k, .string ⟨(dO l k6 x6).o.nm.toArray⟩, .string ⟨(dO l k6 x6).o.tx.toArray⟩, .int .i64 ((dO l k6 x6).o.n : Int), .int .i64 ((dO l k6 x6).o.m : Int)] rfl rfl TH6.out IO6.out OO6.out ?_; rw [List.toList_toArray]))
     have M7 : Hid (All (rdB R (.slice (some ⟨g, 0, none⟩) l.length c) (k6 + (dO l k6 x6).k) (flE x6 (dO l k6 x6).e) :: blkC (w.heap.size + 1) (setOp C6 14 (dO l k6 x6).o) 36 :: blkC w.heap.size (Ev.zero 0).cells 36 :: cs) (wb6.setCells (w.heap.size + 1) 14 [.int .i64 (dO l k6 x6).o.k, .string ⟨(dO l k6 x6).o.nm.toArray⟩, .string ⟨(dO l k6 x6).o.tx.toArray⟩, .int .i64 ((dO l k6 x6).o.n : Int), .int .i64 ((dO l k6 x6).o.m : Int)])) := hid ((((((L6.out.swap.setBlk 14 (.int .i64 (dO l k6 x6).o.k)).setBlk (14 + 1) (.string ⟨(dO l k6 x6).o.nm.toArray⟩)).setBlk (14 + 2) (.string ⟨(dO l k6 x6).o.tx.toArray⟩)).setBlk (14 + 3) (.int .i64 ((dO l k6 x6).o.n : Int))).setBlk (14 + 4) (.int .i64 ((dO l k6 x6).o.m : Int))).swap)
     generalize World.setCells _ _ _ _ = wc6 at *
     clear TH6 L6 CN6 M6 IO6 OO6
     obtain ⟨k7, ek7⟩ : ∃ v, Hid (v = k6 + (dO l k6 x6).k) := ⟨_, hid rfl⟩
     obtain ⟨x7, ex7⟩ : ∃ v, Hid (v = flE x6 (dO l k6 x6).e) := ⟨_, hid rfl⟩
     obtain ⟨C7, eC7⟩ : ∃ v, Hid (v = setOp C6 14 (dO l k6 x6).o) := ⟨_, hid rfl⟩
     have hC7 : C7.length = 33 := by rw [eC7.out]; simp [setOp, hC6]
     have hk7 : k7 ≤ l.length := by rw [ek7.out]; exact LEO.out _ _ hk6
     rw [← ek7.out, ← ex7.out, ← eC7.out] at M7
     have CN7 := hid (RSR.out k7 x7 _ _ _ hk7 M7.out)
     have IO7 : Hid (∀ va vc, (Tryz.prog.info? 29).map (·.size) = some (#[.int .i64 (dR l k7 x7).c, .int .i64 (dR l k7 x7).n, .slice va (dR l k7 x7).items.length vc] : Array Value).size) := hid (fun va vc => by kernel_rfl)
     have OO7 : Hid (∀ va vc, (#[.int .i64 (dR l k7 x7).c, .int .i64 (dR l k7 x7).n, .slice va (dR l k7 x7).items.length vc] : Array Value).all (·.oneCell') = true) := hid (fun va vc => by simp [Value.oneCell'])
     go_upto_region 48 with (first
       | (go_at_call 110; refine CN7.out.mono ?_; rintro r wb7 ⟨va, vc, rfl, B⟩; have L7 := hid (B.perm (List.perm_middle (l₁ := [_, _, _])).symm); clear B; have TH7 : Hid (wb7.there (w.heap.size + 1) 19 3) := hid (fun z hz => ⟨by rw [cell_at (L7.out.blk (g := w.heap.size + 1) (vs := C7) (t := 36) (List.mem_cons_of_mem _ List.mem_cons_self)), List.getElem?_toArray, List.getElem?_eq_getElem (by omega)]; rfl, free_at (L7.out.blk (g := w.heap.size + 1) (vs := C7) (t := 36) (List.mem_cons_of_mem _ List.mem_cons_self)) _⟩))
       | (refine wpList_store_mid rfl 29 _ _ rfl (w.heap.size + 1) 19 #[.int .i64 (dR l k7 x7).c, .int .i64 (dR l k7 x7).n, .slice va (dR l k7 x7).items.length vc] rfl rfl TH7.out (IO7.out va vc) (OO7.out va vc) ?_; rw [List.toList_toArray]))
     have M8 : Hid (All (rdB R (.slice (some ⟨g, 0, none⟩) l.length c) (k7 + (dR l k7 x7).k) (flE x7 (dR l k7 x7).e) :: blkC (w.heap.size + 1) (setRes C7 19 (dR l k7 x7).c (dR l k7 x7).n (.slice va (dR l k7 x7).items.length vc)) 36 :: blkC w.heap.size (Ev.zero 0).cells 36 :: ownC 9 (.slice va (dR l k7 x7).items.length vc) (txW (dR l k7 x7).items) :: cs) (wb7.setCells (w.heap.size + 1) 19 [.int .i64 (dR l k7 x7).c, .int .i64 (dR l k7 x7).n, .slice va (dR l k7 x7).items.length vc])) := hid ((((L7.out.swap.setBlk 19 (.int .i64 (dR l k7 x7).c)).setBlk (19 + 1) (.int .i64 (dR l k7 x7).n)).setBlk (19 + 2) (.slice va (dR l k7 x7).items.length vc)).swap)
     generalize World.setCells _ _ _ _ = wc7 at *
     clear TH7 L7 CN7 M7 IO7 OO7
     obtain ⟨ov, eov⟩ : ∃ v, Hid (v = Value.slice va (dR l k7 x7).items.length vc) := ⟨_, hid rfl⟩
     rw [← eov.out] at M8
     clear eov
     obtain ⟨k8, ek8⟩ : ∃ v, Hid (v = k7 + (dR l k7 x7).k) := ⟨_, hid rfl⟩
     obtain ⟨x8, ex8⟩ : ∃ v, Hid (v = flE x7 (dR l k7 x7).e) := ⟨_, hid rfl⟩
     obtain ⟨C8, eC8⟩ : ∃ v, Hid (v = setRes C7 19 (dR l k7 x7).c (dR l k7 x7).n ov) := ⟨_, hid rfl⟩
     have hC8 : C8.length = 33 := by rw [eC8.out]; simp [setRes, hC7]
     rw [← ek8.out, ← ex8.out, ← eC8.out] at M8
     obtain ⟨CF, eCF⟩ : ∃ v, Hid (v = putL (Ev.zero 6).cells (tsK 6) (dRun (tsK 6) l k1 xw).1 [ptr 0, ptr 0, ptr 0, ptr 0, ptr 0, ptr 0, ov]) := ⟨_, hid rfl⟩
     have FIN : Hid (C8 = CF ∧ [ptr 0, ptr 0, ptr 0, ptr 0, ptr 0, ptr 0, ov].length = (dRun (tsK 6) l k1 xw).1.length ∧ (∀ W, All (rdB R (.slice (some ⟨g, 0, none⟩) l.length c) k8 x8 :: ownC 9 ov (txW (dR l k7 x7).items) :: cs) W → All (rdB R (.slice (some ⟨g, 0, none⟩) l.length c) (dRun (tsK 6) l k1 xw).2.1 (dRun (tsK 6) l k1 xw).2.2 :: (ownL (dRun (tsK 6) l k1 xw).1 [ptr 0, ptr 0, ptr 0, ptr 0, ptr 0, ptr 0, ov] ++ cs)) W)) := hid (by
       rw [eCF.out]
       have h := eC8.out; subst h; have h := ek8.out; subst h; have h := ex8.out; subst h
       have h := eC7.out; subst h; have h := ek7.out; subst h; have h := ex7.out; subst h
       have h := eC6.out; subst h; have h := ek6.out; subst h; have h := ex6.out; subst h
       have h := eC5.out; subst h; have h := ek5.out; subst h; have h := ex5.out; subst h
       have h := eC4.out; subst h; have h := ek4.out; subst h; have h := ex4.out; subst h
       have h := eC3.out; subst h; have h := ek3.out; subst h; have h := ex3.out; subst h
       have h := eC2.out; subst h; have h := ek2.out; subst h; have h := ex2.out; subst h
       exact ⟨rfl, rfl, fun W h => h⟩)
     have hCF : CF.length = 33 := by rw [← FIN.out.1]; exact hC8
     have MF := M8
     rw [FIN.out.1] at MF
     have I36 : Hid ((Tryz.prog.info? 36).map (·.size) = some CF.toArray.size) := hid (by rw [List.size_toArray, hCF]; kernel_rfl)
     have Z36 : Hid ((Ev.zero 0).cells.toArray.size = CF.toArray.size) := hid ((show (Ev.zero 0).cells.toArray.size = 33 from rfl).trans (by rw [List.size_toArray, hCF]))
     have O36 : Hid (CF.toArray.all (·.oneCell') = true) := hid (all_oneCell_toArray (by
       rw [eCF.out]
       have h1 := FIN.out.2.2 _ ((MF.out.swap.tail).swap.tail)
       exact putL_one (zero_one _) h1.tail))
     have HB3 := hid (MF.out.blk (g := w.heap.size + 1) (t := 36) (List.mem_cons_of_mem _ List.mem_cons_self))
     have HBg := hid (MF.out.blk (g := w.heap.size) (t := 36) (List.mem_cons_of_mem _ (List.mem_cons_of_mem _ List.mem_cons_self)))
     have K6 := hid ((MF.out.perm (List.perm_middle (l₁ := [_, _]))).setRow (vs' := CF))
     clear M8 ek2 ex2 eC2 ek3 ex3 eC3 ek4 ex4 eC4 ek5 ex5 eC5 ek6 ex6 eC6 ek7 ex7 eC7 ek8 ex8 eC8 hC8
     go_wp2_with (first | (refine wpList_load_row rfl 36 _ rfl (w.heap.size + 1) rfl 36 CF.toArray (0, 0) _ HB3.out Tryz.underlying36 rfl I36.out ?_) | (refine wpList_store_row rfl 36 _ _ rfl w.heap.size CF.toArray rfl rfl 36 _ HBg.out I36.out Z36.out O36.out ?_))
     refine ret_evD rfl rfl (K6.out.blk List.mem_cons_self) hCF rfl ⟨[ptr 0, ptr 0, ptr 0, ptr 0, ptr 0, ptr 0, ov], FIN.out.2.1, by rw [← eCF.out], FIN.out.2.2 _ K6.out.tail.swap.tail⟩
   rw [Bool.not_eq_true] at hb1
   subst hb1
   by_cases hb2 : B2 = true
   · subst hb2
     go_upto_region 36 with fail
     have N3 := L3
     obtain ⟨x4, ex4'⟩ : ∃ v, Hid (v = xq) := ⟨_, hid rfl⟩
     rw [← ex4'.out] at N3
     clear L3
     have ex4 : Hid (x4 = (dRd (.fre 6) l k3 x3).2.2) := hid (by rw [ex4'.out, exq.out]; show _ = if (decide (dW l k3 x3 = [102, 114, 101, 115, 104]) || decide (dW l k3 x3 = [111, 108, 100])) = true then dX l k3 x3 else flE (dX l k3 x3) 190; rw [← eQ.out, ← eB1.out, ← eB2.out]; rfl)
     have cc3 := cell_in N3.out (P := w.heap.size + 1) (t := 36) (o := 6) (List.mem_cons_of_mem _ List.mem_cons_self) hvo3
     have ff3 := free_at (N3.out.blk (g := w.heap.size + 1) (t := 36) (List.mem_cons_of_mem _ List.mem_cons_self)) 6
     have M4 := hid ((N3.out.swap.setBlk 6 (.bool false)).swap)
     go_upto_region 37 with fail
     generalize World.setCell _ _ _ = wc3 at *
     clear cc3 ff3 N3 ex4'
     obtain ⟨C4, eC4⟩ : ∃ v, Hid (v = C3.set 6 (.bool (decide (dW l k3 x3 = [102, 114, 101, 115, 104])))) := ⟨_, hid rfl⟩
     have eC4'' : C3.set 6 (.bool false) = C4 := by rw [eC4.out, ← eQ.out, ← eB1.out]
     have hC4 : C4.length = 33 := by rw [eC4.out, List.length_set]; exact hC3
     rw [eC4''] at M4
     clear eC4'' q1 q2 eB1 eB2 eQ exq
     have hk4' := hk4
     obtain ⟨vo4, hvo4⟩ := some_at hC4 12 (by decide)
     have CN4 := hid (NUM.out k4 x4 _ _ _ hk4 M4.out)
     go_upto_region 38 with (go_at_call 108; refine CN4.out.mono ?_; rintro r wb4 ⟨rfl, B⟩; have L4 := hid B; clear B; have cc4 := cell_in L4.out (P := w.heap.size + 1) (t := 36) (o := 12) (List.mem_cons_of_mem _ List.mem_cons_self) hvo4; have ff4 := free_at (L4.out.blk (g := w.heap.size + 1) (t := 36) (List.mem_cons_of_mem _ List.mem_cons_self)) 12)
     have M5 := hid ((L4.out.swap.setBlk 12 (.int .i64 (dN l k4 x4))).swap)
     generalize World.setCell _ _ _ = wc4 at *
     clear cc4 ff4 L4 CN4 M4 hvo4 hk4'
     obtain ⟨k5, ek5⟩ : ∃ v, Hid (v = dK l k4 x4) := ⟨_, hid rfl⟩
     obtain ⟨x5, ex5⟩ : ∃ v, Hid (v = dNX l k4 x4) := ⟨_, hid rfl⟩
     obtain ⟨C5, eC5⟩ : ∃ v, Hid (v = C4.set 12 (.int .i64 (dN l k4 x4))) := ⟨_, hid rfl⟩
     have hC5 : C5.length = 33 := by rw [eC5.out, List.length_set]; exact hC4
     have hk5 : k5 ≤ l.length := by rw [ek5.out]; exact LEK.out _ _ hk4
     rw [← ek5.out, ← ex5.out, ← eC5.out] at M5
     have hk5' := hk5
     obtain ⟨vo5, hvo5⟩ := some_at hC5 13 (by decide)
     have CN5 := hid (NUM.out k5 x5 _ _ _ hk5 M5.out)
     go_upto_region 39 with (go_at_call 108; refine CN5.out.mono ?_; rintro r wb5 ⟨rfl, B⟩; have L5 := hid B; clear B; have cc5 := cell_in L5.out (P := w.heap.size + 1) (t := 36) (o := 13) (List.mem_cons_of_mem _ List.mem_cons_self) hvo5; have ff5 := free_at (L5.out.blk (g := w.heap.size + 1) (t := 36) (List.mem_cons_of_mem _ List.mem_cons_self)) 13)
     have M6 := hid ((L5.out.swap.setBlk 13 (.int .i64 (dN l k5 x5))).swap)
     generalize World.setCell _ _ _ = wc5 at *
     clear cc5 ff5 L5 CN5 M5 hvo5 hk5'
     obtain ⟨k6, ek6⟩ : ∃ v, Hid (v = dK l k5 x5) := ⟨_, hid rfl⟩
     obtain ⟨x6, ex6⟩ : ∃ v, Hid (v = dNX l k5 x5) := ⟨_, hid rfl⟩
     obtain ⟨C6, eC6⟩ : ∃ v, Hid (v = C5.set 13 (.int .i64 (dN l k5 x5))) := ⟨_, hid rfl⟩
     have hC6 : C6.length = 33 := by rw [eC6.out, List.length_set]; exact hC5
     have hk6 : k6 ≤ l.length := by rw [ek6.out]; exact LEK.out _ _ hk5
     rw [← ek6.out, ← ex6.out, ← eC6.out] at M6
     have CN6 := hid (OPR.out k6 x6 _ _ _ hk6 M6.out)
     have IO6 : Hid ((Tryz.prog.info? 24).map (·.size) = some (#[.int .i64 (dO l k6 x6).o.k, .string ⟨(dO l k6 x6).o.nm.toArray⟩, .string ⟨(dO l k6 x6).o.tx.toArray⟩, .int .i64 ((dO l k6 x6).o.n : Int), .int .i64 ((dO l k6 x6).o.m : Int)] : Array Value).size) := hid (by kernel_rfl)
     have OO6 : Hid ((#[.int .i64 (dO l k6 x6).o.k, .string ⟨(dO l k6 x6).o.nm.toArray⟩, .string ⟨(dO l k6 x6).o.tx.toArray⟩, .int .i64 ((dO l k6 x6).o.n : Int), .int .i64 ((dO l k6 x6).o.m : Int)] : Array Value).all (·.oneCell') = true) := hid (by simp [Value.oneCell'])
     go_upto_region 40 with (first
       | (go_at_call 109; refine CN6.out.mono ?_; rintro r wb6 ⟨rfl, B⟩; have L6 := hid B; clear B; have TH6 : Hid (wb6.there (w.heap.size + 1) 14 5) := hid (fun z hz => ⟨by rw [cell_at (L6.out.blk (g := w.heap.size + 1) (vs := C6) (t := 36) (List.mem_cons_of_mem _ List.mem_cons_self)), List.getElem?_toArray, List.getElem?_eq_getElem (by omega)]; rfl, free_at (L6.out.blk (g := w.heap.size + 1) (vs := C6) (t := 36) (List.mem_cons_of_mem _ List.mem_cons_self)) _⟩))
       | (refine wpList_store_mid rfl 24 _ _ rfl (w.heap.size + 1) 14 #[.int .i64 (dO l k6 x6).o.k, .string ⟨(dO l k6 x6).o.nm.toArray⟩, .string ⟨(dO l k6 x6).o.tx.toArray⟩, .int .i64 ((dO l k6 x6).o.n : Int), .int .i64 ((dO l k6 x6).o.m : Int)] rfl rfl TH6.out IO6.out OO6.out ?_; rw [List.toList_toArray]))
     have M7 : Hid (All (rdB R (.slice (some ⟨g, 0, none⟩) l.length c) (k6 + (dO l k6 x6).k) (flE x6 (dO l k6 x6).e) :: blkC (w.heap.size + 1) (setOp C6 14 (dO l k6 x6).o) 36 :: blkC w.heap.size (Ev.zero 0).cells 36 :: cs) (wb6.setCells (w.heap.size + 1) 14 [.int .i64 (dO l k6 x6).o.k, .string ⟨(dO l k6 x6).o.nm.toArray⟩, .string ⟨(dO l k6 x6).o.tx.toArray⟩, .int .i64 ((dO l k6 x6).o.n : Int), .int .i64 ((dO l k6 x6).o.m : Int)])) := hid ((((((L6.out.swap.setBlk 14 (.int .i64 (dO l k6 x6).o.k)).setBlk (14 + 1) (.string ⟨(dO l k6 x6).o.nm.toArray⟩)).setBlk (14 + 2) (.string ⟨(dO l k6 x6).o.tx.toArray⟩)).setBlk (14 + 3) (.int .i64 ((dO l k6 x6).o.n : Int))).setBlk (14 + 4) (.int .i64 ((dO l k6 x6).o.m : Int))).swap)
     generalize World.setCells _ _ _ _ = wc6 at *
     clear TH6 L6 CN6 M6 IO6 OO6
     obtain ⟨k7, ek7⟩ : ∃ v, Hid (v = k6 + (dO l k6 x6).k) := ⟨_, hid rfl⟩
     obtain ⟨x7, ex7⟩ : ∃ v, Hid (v = flE x6 (dO l k6 x6).e) := ⟨_, hid rfl⟩
     obtain ⟨C7, eC7⟩ : ∃ v, Hid (v = setOp C6 14 (dO l k6 x6).o) := ⟨_, hid rfl⟩
     have hC7 : C7.length = 33 := by rw [eC7.out]; simp [setOp, hC6]
     have hk7 : k7 ≤ l.length := by rw [ek7.out]; exact LEO.out _ _ hk6
     rw [← ek7.out, ← ex7.out, ← eC7.out] at M7
     have CN7 := hid (RSR.out k7 x7 _ _ _ hk7 M7.out)
     have IO7 : Hid (∀ va vc, (Tryz.prog.info? 29).map (·.size) = some (#[.int .i64 (dR l k7 x7).c, .int .i64 (dR l k7 x7).n, .slice va (dR l k7 x7).items.length vc] : Array Value).size) := hid (fun va vc => by kernel_rfl)
     have OO7 : Hid (∀ va vc, (#[.int .i64 (dR l k7 x7).c, .int .i64 (dR l k7 x7).n, .slice va (dR l k7 x7).items.length vc] : Array Value).all (·.oneCell') = true) := hid (fun va vc => by simp [Value.oneCell'])
     go_upto_region 48 with (first
       | (go_at_call 110; refine CN7.out.mono ?_; rintro r wb7 ⟨va, vc, rfl, B⟩; have L7 := hid (B.perm (List.perm_middle (l₁ := [_, _, _])).symm); clear B; have TH7 : Hid (wb7.there (w.heap.size + 1) 19 3) := hid (fun z hz => ⟨by rw [cell_at (L7.out.blk (g := w.heap.size + 1) (vs := C7) (t := 36) (List.mem_cons_of_mem _ List.mem_cons_self)), List.getElem?_toArray, List.getElem?_eq_getElem (by omega)]; rfl, free_at (L7.out.blk (g := w.heap.size + 1) (vs := C7) (t := 36) (List.mem_cons_of_mem _ List.mem_cons_self)) _⟩))
       | (refine wpList_store_mid rfl 29 _ _ rfl (w.heap.size + 1) 19 #[.int .i64 (dR l k7 x7).c, .int .i64 (dR l k7 x7).n, .slice va (dR l k7 x7).items.length vc] rfl rfl TH7.out (IO7.out va vc) (OO7.out va vc) ?_; rw [List.toList_toArray]))
     have M8 : Hid (All (rdB R (.slice (some ⟨g, 0, none⟩) l.length c) (k7 + (dR l k7 x7).k) (flE x7 (dR l k7 x7).e) :: blkC (w.heap.size + 1) (setRes C7 19 (dR l k7 x7).c (dR l k7 x7).n (.slice va (dR l k7 x7).items.length vc)) 36 :: blkC w.heap.size (Ev.zero 0).cells 36 :: ownC 9 (.slice va (dR l k7 x7).items.length vc) (txW (dR l k7 x7).items) :: cs) (wb7.setCells (w.heap.size + 1) 19 [.int .i64 (dR l k7 x7).c, .int .i64 (dR l k7 x7).n, .slice va (dR l k7 x7).items.length vc])) := hid ((((L7.out.swap.setBlk 19 (.int .i64 (dR l k7 x7).c)).setBlk (19 + 1) (.int .i64 (dR l k7 x7).n)).setBlk (19 + 2) (.slice va (dR l k7 x7).items.length vc)).swap)
     generalize World.setCells _ _ _ _ = wc7 at *
     clear TH7 L7 CN7 M7 IO7 OO7
     obtain ⟨ov, eov⟩ : ∃ v, Hid (v = Value.slice va (dR l k7 x7).items.length vc) := ⟨_, hid rfl⟩
     rw [← eov.out] at M8
     clear eov
     obtain ⟨k8, ek8⟩ : ∃ v, Hid (v = k7 + (dR l k7 x7).k) := ⟨_, hid rfl⟩
     obtain ⟨x8, ex8⟩ : ∃ v, Hid (v = flE x7 (dR l k7 x7).e) := ⟨_, hid rfl⟩
     obtain ⟨C8, eC8⟩ : ∃ v, Hid (v = setRes C7 19 (dR l k7 x7).c (dR l k7 x7).n ov) := ⟨_, hid rfl⟩
     have hC8 : C8.length = 33 := by rw [eC8.out]; simp [setRes, hC7]
     rw [← ek8.out, ← ex8.out, ← eC8.out] at M8
     obtain ⟨CF, eCF⟩ : ∃ v, Hid (v = putL (Ev.zero 6).cells (tsK 6) (dRun (tsK 6) l k1 xw).1 [ptr 0, ptr 0, ptr 0, ptr 0, ptr 0, ptr 0, ov]) := ⟨_, hid rfl⟩
     have FIN : Hid (C8 = CF ∧ [ptr 0, ptr 0, ptr 0, ptr 0, ptr 0, ptr 0, ov].length = (dRun (tsK 6) l k1 xw).1.length ∧ (∀ W, All (rdB R (.slice (some ⟨g, 0, none⟩) l.length c) k8 x8 :: ownC 9 ov (txW (dR l k7 x7).items) :: cs) W → All (rdB R (.slice (some ⟨g, 0, none⟩) l.length c) (dRun (tsK 6) l k1 xw).2.1 (dRun (tsK 6) l k1 xw).2.2 :: (ownL (dRun (tsK 6) l k1 xw).1 [ptr 0, ptr 0, ptr 0, ptr 0, ptr 0, ptr 0, ov] ++ cs)) W)) := hid (by
       rw [eCF.out]
       have h := eC8.out; subst h; have h := ek8.out; subst h; have h := ex8.out; subst h
       have h := eC7.out; subst h; have h := ek7.out; subst h; have h := ex7.out; subst h
       have h := eC6.out; subst h; have h := ek6.out; subst h; have h := ex6.out; subst h
       have h := eC5.out; subst h; have h := ek5.out; subst h; have h := ex5.out; subst h
       have h := eC4.out; subst h; have h := ek4.out; subst h; have h := ex4.out; subst h
       have h := eC3.out; subst h; have h := ek3.out; subst h; have h := ex3.out; subst h
       have h := eC2.out; subst h; have h := ek2.out; subst h; have h := ex2.out; subst h
       exact ⟨rfl, rfl, fun W h => h⟩)
     have hCF : CF.length = 33 := by rw [← FIN.out.1]; exact hC8
     have MF := M8
     rw [FIN.out.1] at MF
     have I36 : Hid ((Tryz.prog.info? 36).map (·.size) = some CF.toArray.size) := hid (by rw [List.size_toArray, hCF]; kernel_rfl)
     have Z36 : Hid ((Ev.zero 0).cells.toArray.size = CF.toArray.size) := hid ((show (Ev.zero 0).cells.toArray.size = 33 from rfl).trans (by rw [List.size_toArray, hCF]))
     have O36 : Hid (CF.toArray.all (·.oneCell') = true) := hid (all_oneCell_toArray (by
       rw [eCF.out]
       have h1 := FIN.out.2.2 _ ((MF.out.swap.tail).swap.tail)
       exact putL_one (zero_one _) h1.tail))
     have HB3 := hid (MF.out.blk (g := w.heap.size + 1) (t := 36) (List.mem_cons_of_mem _ List.mem_cons_self))
     have HBg := hid (MF.out.blk (g := w.heap.size) (t := 36) (List.mem_cons_of_mem _ (List.mem_cons_of_mem _ List.mem_cons_self)))
     have K6 := hid ((MF.out.perm (List.perm_middle (l₁ := [_, _]))).setRow (vs' := CF))
     clear M8 ek2 ex2 eC2 ek3 ex3 eC3 ek4 ex4 eC4 ek5 ex5 eC5 ek6 ex6 eC6 ek7 ex7 eC7 ek8 ex8 eC8 hC8
     go_wp2_with (first | (refine wpList_load_row rfl 36 _ rfl (w.heap.size + 1) rfl 36 CF.toArray (0, 0) _ HB3.out Tryz.underlying36 rfl I36.out ?_) | (refine wpList_store_row rfl 36 _ _ rfl w.heap.size CF.toArray rfl rfl 36 _ HBg.out I36.out Z36.out O36.out ?_))
     refine ret_evD rfl rfl (K6.out.blk List.mem_cons_self) hCF rfl ⟨[ptr 0, ptr 0, ptr 0, ptr 0, ptr 0, ptr 0, ov], FIN.out.2.1, by rw [← eCF.out], FIN.out.2.2 _ K6.out.tail.swap.tail⟩
   rw [Bool.not_eq_true] at hb2
   subst hb2
   have CF := hid (FAI.out _ _ _ _ L3.out)
   go_upto_region 36 with (go_at_call 75; refine CF.out.mono ?_; rintro r w6 ⟨rfl, B6⟩; have N3 := hid B6; clear B6)
   clear CF L3
   obtain ⟨x4, ex4'⟩ : ∃ v, Hid (v = flE xq 190) := ⟨_, hid rfl⟩
   rw [← ex4'.out] at N3
   have ex4 : Hid (x4 = (dRd (.fre 6) l k3 x3).2.2) := hid (by rw [ex4'.out, exq.out]; show _ = if (decide (dW l k3 x3 = [102, 114, 101, 115, 104]) || decide (dW l k3 x3 = [111, 108, 100])) = true then dX l k3 x3 else flE (dX l k3 x3) 190; rw [← eQ.out, ← eB1.out, ← eB2.out]; rfl)
   have cc3 := cell_in N3.out (P := w.heap.size + 1) (t := 36) (o := 6) (List.mem_cons_of_mem _ List.mem_cons_self) hvo3
   have ff3 := free_at (N3.out.blk (g := w.heap.size + 1) (t := 36) (List.mem_cons_of_mem _ List.mem_cons_self)) 6
   have M4 := hid ((N3.out.swap.setBlk 6 (.bool false)).swap)
   go_upto_region 37 with fail
   generalize World.setCell _ _ _ = wc3 at *
   clear cc3 ff3 N3 ex4'
   obtain ⟨C4, eC4⟩ : ∃ v, Hid (v = C3.set 6 (.bool (decide (dW l k3 x3 = [102, 114, 101, 115, 104])))) := ⟨_, hid rfl⟩
   have eC4'' : C3.set 6 (.bool false) = C4 := by rw [eC4.out, ← eQ.out, ← eB1.out]
   have hC4 : C4.length = 33 := by rw [eC4.out, List.length_set]; exact hC3
   rw [eC4''] at M4
   clear eC4'' q1 q2 eB1 eB2 eQ exq
   have hk4' := hk4
   obtain ⟨vo4, hvo4⟩ := some_at hC4 12 (by decide)
   have CN4 := hid (NUM.out k4 x4 _ _ _ hk4 M4.out)
   go_upto_region 38 with (go_at_call 108; refine CN4.out.mono ?_; rintro r wb4 ⟨rfl, B⟩; have L4 := hid B; clear B; have cc4 := cell_in L4.out (P := w.heap.size + 1) (t := 36) (o := 12) (List.mem_cons_of_mem _ List.mem_cons_self) hvo4; have ff4 := free_at (L4.out.blk (g := w.heap.size + 1) (t := 36) (List.mem_cons_of_mem _ List.mem_cons_self)) 12)
   have M5 := hid ((L4.out.swap.setBlk 12 (.int .i64 (dN l k4 x4))).swap)
   generalize World.setCell _ _ _ = wc4 at *
   clear cc4 ff4 L4 CN4 M4 hvo4 hk4'
   obtain ⟨k5, ek5⟩ : ∃ v, Hid (v = dK l k4 x4) := ⟨_, hid rfl⟩
   obtain ⟨x5, ex5⟩ : ∃ v, Hid (v = dNX l k4 x4) := ⟨_, hid rfl⟩
   obtain ⟨C5, eC5⟩ : ∃ v, Hid (v = C4.set 12 (.int .i64 (dN l k4 x4))) := ⟨_, hid rfl⟩
   have hC5 : C5.length = 33 := by rw [eC5.out, List.length_set]; exact hC4
   have hk5 : k5 ≤ l.length := by rw [ek5.out]; exact LEK.out _ _ hk4
   rw [← ek5.out, ← ex5.out, ← eC5.out] at M5
   have hk5' := hk5
   obtain ⟨vo5, hvo5⟩ := some_at hC5 13 (by decide)
   have CN5 := hid (NUM.out k5 x5 _ _ _ hk5 M5.out)
   go_upto_region 39 with (go_at_call 108; refine CN5.out.mono ?_; rintro r wb5 ⟨rfl, B⟩; have L5 := hid B; clear B; have cc5 := cell_in L5.out (P := w.heap.size + 1) (t := 36) (o := 13) (List.mem_cons_of_mem _ List.mem_cons_self) hvo5; have ff5 := free_at (L5.out.blk (g := w.heap.size + 1) (t := 36) (List.mem_cons_of_mem _ List.mem_cons_self)) 13)
   have M6 := hid ((L5.out.swap.setBlk 13 (.int .i64 (dN l k5 x5))).swap)
   generalize World.setCell _ _ _ = wc5 at *
   clear cc5 ff5 L5 CN5 M5 hvo5 hk5'
   obtain ⟨k6, ek6⟩ : ∃ v, Hid (v = dK l k5 x5) := ⟨_, hid rfl⟩
   obtain ⟨x6, ex6⟩ : ∃ v, Hid (v = dNX l k5 x5) := ⟨_, hid rfl⟩
   obtain ⟨C6, eC6⟩ : ∃ v, Hid (v = C5.set 13 (.int .i64 (dN l k5 x5))) := ⟨_, hid rfl⟩
   have hC6 : C6.length = 33 := by rw [eC6.out, List.length_set]; exact hC5
   have hk6 : k6 ≤ l.length := by rw [ek6.out]; exact LEK.out _ _ hk5
   rw [← ek6.out, ← ex6.out, ← eC6.out] at M6
   have CN6 := hid (OPR.out k6 x6 _ _ _ hk6 M6.out)
   have IO6 : Hid ((Tryz.prog.info? 24).map (·.size) = some (#[.int .i64 (dO l k6 x6).o.k, .string ⟨(dO l k6 x6).o.nm.toArray⟩, .string ⟨(dO l k6 x6).o.tx.toArray⟩, .int .i64 ((dO l k6 x6).o.n : Int), .int .i64 ((dO l k6 x6).o.m : Int)] : Array Value).size) := hid (by kernel_rfl)
   have OO6 : Hid ((#[.int .i64 (dO l k6 x6).o.k, .string ⟨(dO l k6 x6).o.nm.toArray⟩, .string ⟨(dO l k6 x6).o.tx.toArray⟩, .int .i64 ((dO l k6 x6).o.n : Int), .int .i64 ((dO l k6 x6).o.m : Int)] : Array Value).all (·.oneCell') = true) := hid (by simp [Value.oneCell'])
   go_upto_region 40 with (first
     | (go_at_call 109; refine CN6.out.mono ?_; rintro r wb6 ⟨rfl, B⟩; have L6 := hid B; clear B; have TH6 : Hid (wb6.there (w.heap.size + 1) 14 5) := hid (fun z hz => ⟨by rw [cell_at (L6.out.blk (g := w.heap.size + 1) (vs := C6) (t := 36) (List.mem_cons_of_mem _ List.mem_cons_self)), List.getElem?_toArray, List.getElem?_eq_getElem (by omega)]; rfl, free_at (L6.out.blk (g := w.heap.size + 1) (vs := C6) (t := 36) (List.mem_cons_of_mem _ List.mem_cons_self)) _⟩))
     | (refine wpList_store_mid rfl 24 _ _ rfl (w.heap.size + 1) 14 #[.int .i64 (dO l k6 x6).o.k, .string ⟨(dO l k6 x6).o.nm.toArray⟩, .string ⟨(dO l k6 x6).o.tx.toArray⟩, .int .i64 ((dO l k6 x6).o.n : Int), .int .i64 ((dO l k6 x6).o.m : Int)] rfl rfl TH6.out IO6.out OO6.out ?_; rw [List.toList_toArray]))
   have M7 : Hid (All (rdB R (.slice (some ⟨g, 0, none⟩) l.length c) (k6 + (dO l k6 x6).k) (flE x6 (dO l k6 x6).e) :: blkC (w.heap.size + 1) (setOp C6 14 (dO l k6 x6).o) 36 :: blkC w.heap.size (Ev.zero 0).cells 36 :: cs) (wb6.setCells (w.heap.size + 1) 14 [.int .i64 (dO l k6 x6).o.k, .string ⟨(dO l k6 x6).o.nm.toArray⟩, .string ⟨(dO l k6 x6).o.tx.toArray⟩, .int .i64 ((dO l k6 x6).o.n : Int), .int .i64 ((dO l k6 x6).o.m : Int)])) := hid ((((((L6.out.swap.setBlk 14 (.int .i64 (dO l k6 x6).o.k)).setBlk (14 + 1) (.string ⟨(dO l k6 x6).o.nm.toArray⟩)).setBlk (14 + 2) (.string ⟨(dO l k6 x6).o.tx.toArray⟩)).setBlk (14 + 3) (.int .i64 ((dO l k6 x6).o.n : Int))).setBlk (14 + 4) (.int .i64 ((dO l k6 x6).o.m : Int))).swap)
   generalize World.setCells _ _ _ _ = wc6 at *
   clear TH6 L6 CN6 M6 IO6 OO6
   obtain ⟨k7, ek7⟩ : ∃ v, Hid (v = k6 + (dO l k6 x6).k) := ⟨_, hid rfl⟩
   obtain ⟨x7, ex7⟩ : ∃ v, Hid (v = flE x6 (dO l k6 x6).e) := ⟨_, hid rfl⟩
   obtain ⟨C7, eC7⟩ : ∃ v, Hid (v = setOp C6 14 (dO l k6 x6).o) := ⟨_, hid rfl⟩
   have hC7 : C7.length = 33 := by rw [eC7.out]; simp [setOp, hC6]
   have hk7 : k7 ≤ l.length := by rw [ek7.out]; exact LEO.out _ _ hk6
   rw [← ek7.out, ← ex7.out, ← eC7.out] at M7
   have CN7 := hid (RSR.out k7 x7 _ _ _ hk7 M7.out)
   have IO7 : Hid (∀ va vc, (Tryz.prog.info? 29).map (·.size) = some (#[.int .i64 (dR l k7 x7).c, .int .i64 (dR l k7 x7).n, .slice va (dR l k7 x7).items.length vc] : Array Value).size) := hid (fun va vc => by kernel_rfl)
   have OO7 : Hid (∀ va vc, (#[.int .i64 (dR l k7 x7).c, .int .i64 (dR l k7 x7).n, .slice va (dR l k7 x7).items.length vc] : Array Value).all (·.oneCell') = true) := hid (fun va vc => by simp [Value.oneCell'])
   go_upto_region 48 with (first
     | (go_at_call 110; refine CN7.out.mono ?_; rintro r wb7 ⟨va, vc, rfl, B⟩; have L7 := hid (B.perm (List.perm_middle (l₁ := [_, _, _])).symm); clear B; have TH7 : Hid (wb7.there (w.heap.size + 1) 19 3) := hid (fun z hz => ⟨by rw [cell_at (L7.out.blk (g := w.heap.size + 1) (vs := C7) (t := 36) (List.mem_cons_of_mem _ List.mem_cons_self)), List.getElem?_toArray, List.getElem?_eq_getElem (by omega)]; rfl, free_at (L7.out.blk (g := w.heap.size + 1) (vs := C7) (t := 36) (List.mem_cons_of_mem _ List.mem_cons_self)) _⟩))
     | (refine wpList_store_mid rfl 29 _ _ rfl (w.heap.size + 1) 19 #[.int .i64 (dR l k7 x7).c, .int .i64 (dR l k7 x7).n, .slice va (dR l k7 x7).items.length vc] rfl rfl TH7.out (IO7.out va vc) (OO7.out va vc) ?_; rw [List.toList_toArray]))
   have M8 : Hid (All (rdB R (.slice (some ⟨g, 0, none⟩) l.length c) (k7 + (dR l k7 x7).k) (flE x7 (dR l k7 x7).e) :: blkC (w.heap.size + 1) (setRes C7 19 (dR l k7 x7).c (dR l k7 x7).n (.slice va (dR l k7 x7).items.length vc)) 36 :: blkC w.heap.size (Ev.zero 0).cells 36 :: ownC 9 (.slice va (dR l k7 x7).items.length vc) (txW (dR l k7 x7).items) :: cs) (wb7.setCells (w.heap.size + 1) 19 [.int .i64 (dR l k7 x7).c, .int .i64 (dR l k7 x7).n, .slice va (dR l k7 x7).items.length vc])) := hid ((((L7.out.swap.setBlk 19 (.int .i64 (dR l k7 x7).c)).setBlk (19 + 1) (.int .i64 (dR l k7 x7).n)).setBlk (19 + 2) (.slice va (dR l k7 x7).items.length vc)).swap)
   generalize World.setCells _ _ _ _ = wc7 at *
   clear TH7 L7 CN7 M7 IO7 OO7
   obtain ⟨ov, eov⟩ : ∃ v, Hid (v = Value.slice va (dR l k7 x7).items.length vc) := ⟨_, hid rfl⟩
   rw [← eov.out] at M8
   clear eov
   obtain ⟨k8, ek8⟩ : ∃ v, Hid (v = k7 + (dR l k7 x7).k) := ⟨_, hid rfl⟩
   obtain ⟨x8, ex8⟩ : ∃ v, Hid (v = flE x7 (dR l k7 x7).e) := ⟨_, hid rfl⟩
   obtain ⟨C8, eC8⟩ : ∃ v, Hid (v = setRes C7 19 (dR l k7 x7).c (dR l k7 x7).n ov) := ⟨_, hid rfl⟩
   have hC8 : C8.length = 33 := by rw [eC8.out]; simp [setRes, hC7]
   rw [← ek8.out, ← ex8.out, ← eC8.out] at M8
   obtain ⟨CF, eCF⟩ : ∃ v, Hid (v = putL (Ev.zero 6).cells (tsK 6) (dRun (tsK 6) l k1 xw).1 [ptr 0, ptr 0, ptr 0, ptr 0, ptr 0, ptr 0, ov]) := ⟨_, hid rfl⟩
   have FIN : Hid (C8 = CF ∧ [ptr 0, ptr 0, ptr 0, ptr 0, ptr 0, ptr 0, ov].length = (dRun (tsK 6) l k1 xw).1.length ∧ (∀ W, All (rdB R (.slice (some ⟨g, 0, none⟩) l.length c) k8 x8 :: ownC 9 ov (txW (dR l k7 x7).items) :: cs) W → All (rdB R (.slice (some ⟨g, 0, none⟩) l.length c) (dRun (tsK 6) l k1 xw).2.1 (dRun (tsK 6) l k1 xw).2.2 :: (ownL (dRun (tsK 6) l k1 xw).1 [ptr 0, ptr 0, ptr 0, ptr 0, ptr 0, ptr 0, ov] ++ cs)) W)) := hid (by
     rw [eCF.out]
     have h := eC8.out; subst h; have h := ek8.out; subst h; have h := ex8.out; subst h
     have h := eC7.out; subst h; have h := ek7.out; subst h; have h := ex7.out; subst h
     have h := eC6.out; subst h; have h := ek6.out; subst h; have h := ex6.out; subst h
     have h := eC5.out; subst h; have h := ek5.out; subst h; have h := ex5.out; subst h
     have h := eC4.out; subst h; have h := ek4.out; subst h; have h := ex4.out; subst h
     have h := eC3.out; subst h; have h := ek3.out; subst h; have h := ex3.out; subst h
     have h := eC2.out; subst h; have h := ek2.out; subst h; have h := ex2.out; subst h
     exact ⟨rfl, rfl, fun W h => h⟩)
   have hCF : CF.length = 33 := by rw [← FIN.out.1]; exact hC8
   have MF := M8
   rw [FIN.out.1] at MF
   have I36 : Hid ((Tryz.prog.info? 36).map (·.size) = some CF.toArray.size) := hid (by rw [List.size_toArray, hCF]; kernel_rfl)
   have Z36 : Hid ((Ev.zero 0).cells.toArray.size = CF.toArray.size) := hid ((show (Ev.zero 0).cells.toArray.size = 33 from rfl).trans (by rw [List.size_toArray, hCF]))
   have O36 : Hid (CF.toArray.all (·.oneCell') = true) := hid (all_oneCell_toArray (by
     rw [eCF.out]
     have h1 := FIN.out.2.2 _ ((MF.out.swap.tail).swap.tail)
     exact putL_one (zero_one _) h1.tail))
   have HB3 := hid (MF.out.blk (g := w.heap.size + 1) (t := 36) (List.mem_cons_of_mem _ List.mem_cons_self))
   have HBg := hid (MF.out.blk (g := w.heap.size) (t := 36) (List.mem_cons_of_mem _ (List.mem_cons_of_mem _ List.mem_cons_self)))
   have K6 := hid ((MF.out.perm (List.perm_middle (l₁ := [_, _]))).setRow (vs' := CF))
   clear M8 ek2 ex2 eC2 ek3 ex3 eC3 ek4 ex4 eC4 ek5 ex5 eC5 ek6 ex6 eC6 ek7 ex7 eC7 ek8 ex8 eC8 hC8
   go_wp2_with (first | (refine wpList_load_row rfl 36 _ rfl (w.heap.size + 1) rfl 36 CF.toArray (0, 0) _ HB3.out Tryz.underlying36 rfl I36.out ?_) | (refine wpList_store_row rfl 36 _ _ rfl w.heap.size CF.toArray rfl rfl 36 _ HBg.out I36.out Z36.out O36.out ?_))
   refine ret_evD rfl rfl (K6.out.blk List.mem_cons_self) hCF rfl ⟨[ptr 0, ptr 0, ptr 0, ptr 0, ptr 0, ptr 0, ov], FIN.out.2.1, by rw [← eCF.out], FIN.out.2.2 _ K6.out.tail.swap.tail⟩
set_option linter.unusedVariables false
set_option maxRecDepth 1000000
set_option maxHeartbeats 12800000
theorem revent_g {R g c : Nat} {l : Ws} {k : Nat} {x : Int} {cs : List Comp} {w : World} (hk : k ≤ l.length) (hl16 : l.length * 16 ≤ 140737488355328) (hs : ∀ y ∈ l, y.length ≤ 140737488355328) (hS : ∀ W, All cs W → Rt W (.slice (some ⟨g, 0, none⟩) l.length c) l) (hq : kdP (dW l k x) 12 = 7) (A : All (rdB R (.slice (some ⟨g, 0, none⟩) l.length c) k x :: cs) w) :
   Calls Tryz.prog 74 #[.pointer (some ⟨R, 0, none⟩)] w (DEPost 7 R (.slice (some ⟨g, 0, none⟩) l.length c) l (dK l k x) (dX l k x) cs) := by
 have hl : l.length ≤ 140737488355328 := by omega
 obtain ⟨q, eq⟩ : ∃ v, Hid (v = dW l k x) := ⟨_, hid rfl⟩
 obtain ⟨k1, ek1⟩ : ∃ v, Hid (v = dK l k x) := ⟨_, hid rfl⟩
 obtain ⟨xw, exw⟩ : ∃ v, Hid (v = dX l k x) := ⟨_, hid rfl⟩
 rw [← eq.out] at hq
 have HQ := hid hq
 clear hq
 rw [← ek1.out, ← exw.out]
 have WRD : Hid (∀ (k : Nat) (x : Int) (c1 c2 : Comp) W, k ≤ l.length → All (rdB R (.slice (some ⟨g, 0, none⟩) l.length c) k x :: c1 :: c2 :: cs) W → Calls Tryz.prog 107 #[.pointer (some ⟨R, 0, none⟩)] W fun r w' => r = .returned (.string ⟨(dW l k x).toArray⟩) ∧ All (rdB R (.slice (some ⟨g, 0, none⟩) l.length c) (dK l k x) (dX l k x) :: c1 :: c2 :: cs) w') := hid (fun k x c1 c2 W hk h => rword_any hk hl (fun V hV => hS V hV.tail.tail) h)
 have NUM : Hid (∀ (k : Nat) (x : Int) (c1 c2 : Comp) W, k ≤ l.length → All (rdB R (.slice (some ⟨g, 0, none⟩) l.length c) k x :: c1 :: c2 :: cs) W → Calls Tryz.prog 108 #[.pointer (some ⟨R, 0, none⟩)] W fun r w' => r = .returned (.int .i64 (dN l k x)) ∧ All (rdB R (.slice (some ⟨g, 0, none⟩) l.length c) (dK l k x) (dNX l k x) :: c1 :: c2 :: cs) w') := hid (fun k x c1 c2 W hk h => rnumber_any hk hl hs (fun V hV => hS V hV.tail.tail) h)
 have LOK : Hid (∀ (k : Nat) (x : Int) (c1 c2 : Comp) W, k ≤ l.length → All (rdB R (.slice (some ⟨g, 0, none⟩) l.length c) k x :: c1 :: c2 :: cs) W → Calls Tryz.prog 111 #[.pointer (some ⟨R, 0, none⟩)] W fun e w' => ∃ (k1 k2 k3 k4 k5 k6 k7 k8 : Nat) (x1 x2 x3 x4 x5 x6 x7 x8 : Int), k1 = dK l k x ∧ x1 = dNX l k x ∧ k2 = dK l k1 x1 ∧ x2 = dLX l k1 x1 ∧ k3 = dK l k2 x2 ∧ x3 = dNX l k2 x2 ∧ k4 = dK l k3 x3 ∧ x4 = dNX l k3 x3 ∧ k5 = dK l k4 x4 ∧ x5 = dNX l k4 x4 ∧ k6 = dK l k5 x5 ∧ x6 = dNX l k5 x5 ∧ k7 = dK l k6 x6 ∧ x7 = dNX l k6 x6 ∧ k8 = dK l k7 x7 ∧ x8 = dNX l k7 x7 ∧
     e = .returned (.agg #[.int .i64 (dN l k x), .int .i64 (stI (dW l k1 x1)), .int .i64 (dN l k2 x2), .int .i64 (dN l k3 x3), .int .i64 (dN l k4 x4), .int .i64 (dN l k5 x5), .int .i64 (dN l k6 x6), .int .i64 (dN l k7 x7)]) ∧ All (rdB R (.slice (some ⟨g, 0, none⟩) l.length c) k8 x8 :: c1 :: c2 :: cs) w') := hid (fun k x c1 c2 W hk h => rlook_doc hk hl hs (fun V hV => hS V hV.tail.tail) h)
 have LEK : Hid (∀ (k : Nat) (x : Int), k ≤ l.length → dK l k x ≤ l.length) := hid (fun k x hk => dK_le hk)
 have A1 := hid (((A.addBlk zC 36).addBlk zC 36).perm (List.perm_middle (l₁ := [_, _])))
 have sz : ∀ (V : World) (o : Obj), (V.alloc o).heap.size = V.heap.size + 1 := fun V o => by simp
 rw [sz] at A1
 have I36 : Hid ((Tryz.prog.info? 36).map (·.size) = some (zC.toArray : Array Value).size) := hid (by kernel_rfl)
 have O36 : Hid ((zC.toArray : Array Value).all (·.oneCell') = true) := hid (by kernel_rfl)
 have K0 := hid ((A1.out.swap.setRow (vs' := zC)).swap)
 have HBn := hid (A1.out.blk (g := w.heap.size + 1) (t := 36) (List.mem_cons_of_mem _ List.mem_cons_self))
 clear A hS hs sz A1
 go_enter Tryz.func74, Tryz.ntmps74
 go_upto_region 2 with (refine wpList_store_row rfl 36 _ _ rfl (w.heap.size + 1) zC.toArray rfl rfl 36 _ HBn.out I36.out rfl O36.out ?_)
 generalize World.setRow _ _ _ = wa0 at *
 clear HBn I36 O36
 have CW := hid (WRD.out k x _ _ _ hk K0.out)
 have hk1 : k1 ≤ l.length := by rw [ek1.out]; exact dK_le hk
 rw [← eq.out, ← ek1.out, ← exw.out] at CW
 go_upto_region 3 with (go_at_call 107; refine CW.out.mono ?_; rintro r w2 ⟨rfl, B2⟩; have K2 := hid B2; clear B2)
 have hz : (Ev.zero (kdP q 1)).cells = (Ev.zero 0).cells := by unfold kdP; simp [kdP]
 have K3 : Hid (All (rdB R (.slice (some ⟨g, 0, none⟩) l.length c) k1 xw :: blkC (w.heap.size + 1) (Ev.zero (kdP q 1)).cells 36 :: blkC w.heap.size (Ev.zero 0).cells 36 :: cs) w2) := hid (by rw [hz]; exact K2.out)
 have SET : Hid (∀ (a b : Int), (Ev.zero a).cells.set 0 (.int .i64 b) = (Ev.zero b).cells) := hid (fun _ _ => rfl)
 have GET : Hid (∀ a : Int, (Ev.zero a).cells[0]? = some (.int .i64 a)) := hid (fun _ => rfl)
 clear hz K2 CW K0 WRD
 go_wp2
 go_loopw [5] (fun iv wr => ∃ i : Nat, 1 ≤ i ∧ i ≤ 12 ∧ iv = .int .i64 (i : Int) ∧ Hid (All (rdB R (.slice (some ⟨g, 0, none⟩) l.length c) k1 xw :: blkC (w.heap.size + 1) (Ev.zero (kdP q i)).cells 36 :: blkC w.heap.size (Ev.zero 0).cells 36 :: cs) wr)) (fun iv _ => 13 - (intOf iv).toNat)
 case atStart => exact ⟨1, by omega, by omega, rfl, K3⟩
 case round =>
   obtain ⟨i, h1, h4, rfl, HK⟩ := hrel
   clear K3
   by_cases hi : i ≤ 11
   · have hi' : (i : Int) ≤ 11 := by omega
     have cS := hid (word_any (i : Int) wr)
     by_cases hq : q = wordN (i : Int)
     · have hq' : ((⟨q.toArray⟩ : ByteArray).toList == (⟨(wordN (i : Int)).toArray⟩ : ByteArray).toList) = true := by rw [ba_ne]; simpa using hq
       have hst : kdP q (i + 1) = (i : Int) := by rw [kdP, if_pos ⟨by omega, hq⟩]
       have c1 := hid (fun W (h : Below wr.heap.size wr W) => cell_in (HK.out.later h) (P := w.heap.size + 1) (t := 36) (o := 0) (List.mem_cons_of_mem _ List.mem_cons_self) (GET.out _))
       have f1 := hid (fun W (h : Below wr.heap.size wr W) => free_at ((HK.out.later h).blk (g := w.heap.size + 1) (t := 36) (List.mem_cons_of_mem _ List.mem_cons_self)) 0)
       generalize ByteArray.mk q.toArray = X at *
       generalize ByteArray.mk (wordN (i : Int)).toArray = Y at *
       go_wp2_with (go_at_call 60; refine cS.out.mono ?_; rintro r w5 ⟨rfl, B5⟩; have HL := hid B5; have d1 := c1.out _ B5; have g1 := f1.out _ B5; clear B5)
       go_roundw
       case rel => exact ⟨i + 1, by omega, by omega, by go_num, hid (by have h6 := ((HK.out.later HL.out).swap.setBlk 0 (.int .i64 (i : Int))).swap; rw [SET.out] at h6; rw [hst]; exact h6)⟩
       case measure => simp [intOf]; omega
     · have hq' : ((⟨q.toArray⟩ : ByteArray).toList == (⟨(wordN (i : Int)).toArray⟩ : ByteArray).toList) = false := by rw [ba_ne]; simpa using hq
       have hst : kdP q (i + 1) = kdP q i := by rw [kdP, if_neg (by simp [hq])]
       generalize ByteArray.mk q.toArray = X at *
       generalize ByteArray.mk (wordN (i : Int)).toArray = Y at *
       go_wp2_with (go_at_call 60; refine cS.out.mono ?_; rintro r w5 ⟨rfl, B5⟩; have HL := hid B5; clear B5)
       go_roundw
       case rel => exact ⟨i + 1, by omega, by omega, by go_num, hid (by rw [hst]; exact HK.out.later HL.out)⟩
       case measure => simp [intOf]; omega
   have i12 : i = 12 := by omega
   subst i12
   rw [HQ.out] at HK
   have c0 := cell_in HK.out (P := w.heap.size + 1) (t := 36) (o := 0) (List.mem_cons_of_mem _ List.mem_cons_self) (GET.out _)
   clear hi HQ eq SET
   go_upto_region 11 with fail
   clear c0
   have CN0 := hid (NUM.out k1 xw _ _ _ hk1 HK.out)
   go_upto_region 12 with (go_at_call 108; refine CN0.out.mono ?_; rintro r wb0 ⟨rfl, B⟩; have L0 := hid B; clear B; have cc0 := cell_in L0.out (P := w.heap.size + 1) (t := 36) (o := 1) (List.mem_cons_of_mem _ List.mem_cons_self) rfl; have ff0 := free_at (L0.out.blk (g := w.heap.size + 1) (t := 36) (List.mem_cons_of_mem _ List.mem_cons_self)) 1)
   have M0 := hid ((L0.out.swap.setBlk 1 (.int .i64 (dN l k1 xw))).swap)
   generalize World.setCell _ _ _ = wc0 at *
   clear cc0 ff0 L0 CN0 HK
   have c0 := cell_in M0.out (P := w.heap.size + 1) (t := 36) (o := 0) (List.mem_cons_of_mem _ List.mem_cons_self) (show ((Ev.zero 7).cells.set 1 (.int .i64 (dN l k1 xw)))[0]? = some (.int .i64 7) from rfl)
   obtain ⟨k2, ek2⟩ : ∃ v, Hid (v = dK l k1 xw) := ⟨_, hid rfl⟩
   obtain ⟨x2, ex2⟩ : ∃ v, Hid (v = dNX l k1 xw) := ⟨_, hid rfl⟩
   obtain ⟨C2, eC2⟩ : ∃ v, Hid (v = (Ev.zero 7).cells.set 1 (.int .i64 (dN l k1 xw))) := ⟨_, hid rfl⟩
   have hC2 : C2.length = 33 := by rw [eC2.out]; rfl
   have hk2 : k2 ≤ l.length := by rw [ek2.out]; exact LEK.out _ _ hk1
   rw [← ek2.out, ← ex2.out, ← eC2.out] at M0
   go_upto_region 43 with fail
   clear c0 GET
   have M2 := M0
   clear M0
   have CN2 := hid (LOK.out k2 x2 _ _ _ hk2 M2.out)
   have IO2 : Hid (∀ a b c d e f g h : Int, (Tryz.prog.info? 31).map (·.size) = some (#[.int .i64 a, .int .i64 b, .int .i64 c, .int .i64 d, .int .i64 e, .int .i64 f, .int .i64 g, .int .i64 h] : Array Value).size) := hid (fun a b c d e f g h => by kernel_rfl)
   have OO2 : Hid (∀ a b c d e f g h : Int, (#[.int .i64 a, .int .i64 b, .int .i64 c, .int .i64 d, .int .i64 e, .int .i64 f, .int .i64 g, .int .i64 h] : Array Value).all (·.oneCell') = true) := hid (fun a b c d e f g h => by simp [Value.oneCell'])
   go_upto_region 48 with (first
     | (go_at_call 111; refine CN2.out.mono ?_; rintro r wb2 ⟨k2a, k2b, k2c, k2d, k2e, k2f, k2g, k2h, x2a, x2b, x2c, x2d, x2e, x2f, x2g, x2h, ea, ya, eb, yb, ec, yc, ed, yd, ee, ye, ef, yf, eg, yg, eh, yh, rfl, B⟩; have L2 := hid B; clear B; have EQ := hid (And.intro ea (And.intro ya (And.intro eb (And.intro yb (And.intro ec (And.intro yc (And.intro ed (And.intro yd (And.intro ee (And.intro ye (And.intro ef (And.intro yf (And.intro eg (And.intro yg (And.intro eh yh))))))))))))))); clear ea ya eb yb ec yc ed yd ee ye ef yf eg yg eh yh; have TH2 : Hid (wb2.there (w.heap.size + 1) 22 8) := hid (fun z hz => ⟨by rw [cell_at (L2.out.blk (g := w.heap.size + 1) (vs := C2) (t := 36) (List.mem_cons_of_mem _ List.mem_cons_self)), List.getElem?_toArray, List.getElem?_eq_getElem (by omega)]; rfl, free_at (L2.out.blk (g := w.heap.size + 1) (vs := C2) (t := 36) (List.mem_cons_of_mem _ List.mem_cons_self)) _⟩))
     | (refine wpList_store_mid rfl 31 _ _ rfl (w.heap.size + 1) 22 #[.int .i64 (dN l k2 x2), .int .i64 (stI (dW l k2a x2a)), .int .i64 (dN l k2b x2b), .int .i64 (dN l k2c x2c), .int .i64 (dN l k2d x2d), .int .i64 (dN l k2e x2e), .int .i64 (dN l k2f x2f), .int .i64 (dN l k2g x2g)] rfl rfl TH2.out (IO2.out _ _ _ _ _ _ _ _) (OO2.out _ _ _ _ _ _ _ _) ?_; rw [List.toList_toArray]))
   have M3 : Hid (All (rdB R (.slice (some ⟨g, 0, none⟩) l.length c) k2h x2h :: blkC (w.heap.size + 1) (((((((((C2).set 22 (.int .i64 (dN l k2 x2))).set 23 (.int .i64 (stI (dW l k2a x2a)))).set 24 (.int .i64 (dN l k2b x2b))).set 25 (.int .i64 (dN l k2c x2c))).set 26 (.int .i64 (dN l k2d x2d))).set 27 (.int .i64 (dN l k2e x2e))).set 28 (.int .i64 (dN l k2f x2f))).set 29 (.int .i64 (dN l k2g x2g))) 36 :: blkC w.heap.size (Ev.zero 0).cells 36 :: cs) (wb2.setCells (w.heap.size + 1) 22 [.int .i64 (dN l k2 x2), .int .i64 (stI (dW l k2a x2a)), .int .i64 (dN l k2b x2b), .int .i64 (dN l k2c x2c), .int .i64 (dN l k2d x2d), .int .i64 (dN l k2e x2e), .int .i64 (dN l k2f x2f), .int .i64 (dN l k2g x2g)])) := hid ((((((((((L2.out.swap).setBlk 22 (.int .i64 (dN l k2 x2))).setBlk (22 + 1) (.int .i64 (stI (dW l k2a x2a)))).setBlk (22 + 2) (.int .i64 (dN l k2b x2b))).setBlk (22 + 3) (.int .i64 (dN l k2c x2c))).setBlk (22 + 4) (.int .i64 (dN l k2d x2d))).setBlk (22 + 5) (.int .i64 (dN l k2e x2e))).setBlk (22 + 6) (.int .i64 (dN l k2f x2f))).setBlk (22 + 7) (.int .i64 (dN l k2g x2g))).swap)
   generalize World.setCells _ _ _ _ = wc2 at *
   clear TH2 L2 CN2 M2 IO2 OO2
   obtain ⟨k3, ek3⟩ : ∃ v, Hid (v = k2h) := ⟨_, hid rfl⟩
   obtain ⟨x3, ex3⟩ : ∃ v, Hid (v = x2h) := ⟨_, hid rfl⟩
   obtain ⟨C3, eC3⟩ : ∃ v, Hid (v = ((((((((C2).set 22 (.int .i64 (dN l k2 x2))).set 23 (.int .i64 (stI (dW l k2a x2a)))).set 24 (.int .i64 (dN l k2b x2b))).set 25 (.int .i64 (dN l k2c x2c))).set 26 (.int .i64 (dN l k2d x2d))).set 27 (.int .i64 (dN l k2e x2e))).set 28 (.int .i64 (dN l k2f x2f))).set 29 (.int .i64 (dN l k2g x2g))) := ⟨_, hid rfl⟩
   have hC3 : C3.length = 33 := by rw [eC3.out]; simp only [List.length_set]; exact hC2
   rw [← ek3.out, ← ex3.out, ← eC3.out] at M3
   obtain ⟨CF, eCF⟩ : ∃ v, Hid (v = putL (Ev.zero 7).cells (tsK 7) (dRun (tsK 7) l k1 xw).1 [ptr 0, ptr 0, ptr 0, ptr 0, ptr 0, ptr 0, ptr 0, ptr 0, ptr 0]) := ⟨_, hid rfl⟩
   have FIN : Hid (C3 = CF ∧ [ptr 0, ptr 0, ptr 0, ptr 0, ptr 0, ptr 0, ptr 0, ptr 0, ptr 0].length = (dRun (tsK 7) l k1 xw).1.length ∧ (∀ W, All (rdB R (.slice (some ⟨g, 0, none⟩) l.length c) k3 x3 ::  cs) W → All (rdB R (.slice (some ⟨g, 0, none⟩) l.length c) (dRun (tsK 7) l k1 xw).2.1 (dRun (tsK 7) l k1 xw).2.2 :: (ownL (dRun (tsK 7) l k1 xw).1 [ptr 0, ptr 0, ptr 0, ptr 0, ptr 0, ptr 0, ptr 0, ptr 0, ptr 0] ++ cs)) W)) := hid (by
     rw [eCF.out]
     have h := eC3.out; subst h; have h := ek3.out; subst h; have h := ex3.out; subst h
     obtain ⟨ea, ya, eb, yb, ec, yc, ed, yd, ee, ye, ef, yf, eg, yg, eh, yh⟩ := EQ.out
     subst eh; subst yh; subst eg; subst yg; subst ef; subst yf; subst ee; subst ye; subst ed; subst yd; subst ec; subst yc; subst eb; subst yb; subst ea; subst ya
     have h := eC2.out; subst h; have h := ek2.out; subst h; have h := ex2.out; subst h
     exact ⟨rfl, rfl, fun W h => h⟩)
   have hCF : CF.length = 33 := by rw [← FIN.out.1]; exact hC3
   have MF := M3
   rw [FIN.out.1] at MF
   have I36 : Hid ((Tryz.prog.info? 36).map (·.size) = some CF.toArray.size) := hid (by rw [List.size_toArray, hCF]; kernel_rfl)
   have Z36 : Hid ((Ev.zero 0).cells.toArray.size = CF.toArray.size) := hid ((show (Ev.zero 0).cells.toArray.size = 33 from rfl).trans (by rw [List.size_toArray, hCF]))
   have O36 : Hid (CF.toArray.all (·.oneCell') = true) := hid (all_oneCell_toArray (by
     rw [eCF.out]
     have h1 := FIN.out.2.2 _ ((MF.out.swap.tail).swap.tail)
     exact putL_one (zero_one _) h1.tail))
   have HB3 := hid (MF.out.blk (g := w.heap.size + 1) (t := 36) (List.mem_cons_of_mem _ List.mem_cons_self))
   have HBg := hid (MF.out.blk (g := w.heap.size) (t := 36) (List.mem_cons_of_mem _ (List.mem_cons_of_mem _ List.mem_cons_self)))
   have K6 := hid ((MF.out.perm (List.perm_middle (l₁ := [_, _]))).setRow (vs' := CF))
   clear M3 ek2 ex2 eC2 ek3 ex3 eC3 EQ hC3
   go_wp2_with (first | (refine wpList_load_row rfl 36 _ rfl (w.heap.size + 1) rfl 36 CF.toArray (0, 0) _ HB3.out Tryz.underlying36 rfl I36.out ?_) | (refine wpList_store_row rfl 36 _ _ rfl w.heap.size CF.toArray rfl rfl 36 _ HBg.out I36.out Z36.out O36.out ?_))
   refine ret_evD rfl rfl (K6.out.blk List.mem_cons_self) hCF rfl ⟨[ptr 0, ptr 0, ptr 0, ptr 0, ptr 0, ptr 0, ptr 0, ptr 0, ptr 0], FIN.out.2.1, by rw [← eCF.out], FIN.out.2.2 _ K6.out.tail.swap.tail⟩
set_option linter.unusedVariables false
set_option maxRecDepth 1000000
set_option maxHeartbeats 12800000
theorem revent_h {R g c : Nat} {l : Ws} {k : Nat} {x : Int} {cs : List Comp} {w : World} (hk : k ≤ l.length) (hl16 : l.length * 16 ≤ 140737488355328) (hs : ∀ y ∈ l, y.length ≤ 140737488355328) (hS : ∀ W, All cs W → Rt W (.slice (some ⟨g, 0, none⟩) l.length c) l) (hq : kdP (dW l k x) 12 = 8) (A : All (rdB R (.slice (some ⟨g, 0, none⟩) l.length c) k x :: cs) w) :
   Calls Tryz.prog 74 #[.pointer (some ⟨R, 0, none⟩)] w (DEPost 8 R (.slice (some ⟨g, 0, none⟩) l.length c) l (dK l k x) (dX l k x) cs) := by
 have hl : l.length ≤ 140737488355328 := by omega
 obtain ⟨q, eq⟩ : ∃ v, Hid (v = dW l k x) := ⟨_, hid rfl⟩
 obtain ⟨k1, ek1⟩ : ∃ v, Hid (v = dK l k x) := ⟨_, hid rfl⟩
 obtain ⟨xw, exw⟩ : ∃ v, Hid (v = dX l k x) := ⟨_, hid rfl⟩
 rw [← eq.out] at hq
 have HQ := hid hq
 clear hq
 rw [← ek1.out, ← exw.out]
 have WRD : Hid (∀ (k : Nat) (x : Int) (c1 c2 : Comp) W, k ≤ l.length → All (rdB R (.slice (some ⟨g, 0, none⟩) l.length c) k x :: c1 :: c2 :: cs) W → Calls Tryz.prog 107 #[.pointer (some ⟨R, 0, none⟩)] W fun r w' => r = .returned (.string ⟨(dW l k x).toArray⟩) ∧ All (rdB R (.slice (some ⟨g, 0, none⟩) l.length c) (dK l k x) (dX l k x) :: c1 :: c2 :: cs) w') := hid (fun k x c1 c2 W hk h => rword_any hk hl (fun V hV => hS V hV.tail.tail) h)
 have NUM : Hid (∀ (k : Nat) (x : Int) (c1 c2 : Comp) W, k ≤ l.length → All (rdB R (.slice (some ⟨g, 0, none⟩) l.length c) k x :: c1 :: c2 :: cs) W → Calls Tryz.prog 108 #[.pointer (some ⟨R, 0, none⟩)] W fun r w' => r = .returned (.int .i64 (dN l k x)) ∧ All (rdB R (.slice (some ⟨g, 0, none⟩) l.length c) (dK l k x) (dNX l k x) :: c1 :: c2 :: cs) w') := hid (fun k x c1 c2 W hk h => rnumber_any hk hl hs (fun V hV => hS V hV.tail.tail) h)
 have LEK : Hid (∀ (k : Nat) (x : Int), k ≤ l.length → dK l k x ≤ l.length) := hid (fun k x hk => dK_le hk)
 have A1 := hid (((A.addBlk zC 36).addBlk zC 36).perm (List.perm_middle (l₁ := [_, _])))
 have sz : ∀ (V : World) (o : Obj), (V.alloc o).heap.size = V.heap.size + 1 := fun V o => by simp
 rw [sz] at A1
 have I36 : Hid ((Tryz.prog.info? 36).map (·.size) = some (zC.toArray : Array Value).size) := hid (by kernel_rfl)
 have O36 : Hid ((zC.toArray : Array Value).all (·.oneCell') = true) := hid (by kernel_rfl)
 have K0 := hid ((A1.out.swap.setRow (vs' := zC)).swap)
 have HBn := hid (A1.out.blk (g := w.heap.size + 1) (t := 36) (List.mem_cons_of_mem _ List.mem_cons_self))
 clear A hS hs sz A1
 go_enter Tryz.func74, Tryz.ntmps74
 go_upto_region 2 with (refine wpList_store_row rfl 36 _ _ rfl (w.heap.size + 1) zC.toArray rfl rfl 36 _ HBn.out I36.out rfl O36.out ?_)
 generalize World.setRow _ _ _ = wa0 at *
 clear HBn I36 O36
 have CW := hid (WRD.out k x _ _ _ hk K0.out)
 have hk1 : k1 ≤ l.length := by rw [ek1.out]; exact dK_le hk
 rw [← eq.out, ← ek1.out, ← exw.out] at CW
 go_upto_region 3 with (go_at_call 107; refine CW.out.mono ?_; rintro r w2 ⟨rfl, B2⟩; have K2 := hid B2; clear B2)
 have hz : (Ev.zero (kdP q 1)).cells = (Ev.zero 0).cells := by unfold kdP; simp [kdP]
 have K3 : Hid (All (rdB R (.slice (some ⟨g, 0, none⟩) l.length c) k1 xw :: blkC (w.heap.size + 1) (Ev.zero (kdP q 1)).cells 36 :: blkC w.heap.size (Ev.zero 0).cells 36 :: cs) w2) := hid (by rw [hz]; exact K2.out)
 have SET : Hid (∀ (a b : Int), (Ev.zero a).cells.set 0 (.int .i64 b) = (Ev.zero b).cells) := hid (fun _ _ => rfl)
 have GET : Hid (∀ a : Int, (Ev.zero a).cells[0]? = some (.int .i64 a)) := hid (fun _ => rfl)
 clear hz K2 CW K0 WRD
 go_wp2
 go_loopw [5] (fun iv wr => ∃ i : Nat, 1 ≤ i ∧ i ≤ 12 ∧ iv = .int .i64 (i : Int) ∧ Hid (All (rdB R (.slice (some ⟨g, 0, none⟩) l.length c) k1 xw :: blkC (w.heap.size + 1) (Ev.zero (kdP q i)).cells 36 :: blkC w.heap.size (Ev.zero 0).cells 36 :: cs) wr)) (fun iv _ => 13 - (intOf iv).toNat)
 case atStart => exact ⟨1, by omega, by omega, rfl, K3⟩
 case round =>
   obtain ⟨i, h1, h4, rfl, HK⟩ := hrel
   clear K3
   by_cases hi : i ≤ 11
   · have hi' : (i : Int) ≤ 11 := by omega
     have cS := hid (word_any (i : Int) wr)
     by_cases hq : q = wordN (i : Int)
     · have hq' : ((⟨q.toArray⟩ : ByteArray).toList == (⟨(wordN (i : Int)).toArray⟩ : ByteArray).toList) = true := by rw [ba_ne]; simpa using hq
       have hst : kdP q (i + 1) = (i : Int) := by rw [kdP, if_pos ⟨by omega, hq⟩]
       have c1 := hid (fun W (h : Below wr.heap.size wr W) => cell_in (HK.out.later h) (P := w.heap.size + 1) (t := 36) (o := 0) (List.mem_cons_of_mem _ List.mem_cons_self) (GET.out _))
       have f1 := hid (fun W (h : Below wr.heap.size wr W) => free_at ((HK.out.later h).blk (g := w.heap.size + 1) (t := 36) (List.mem_cons_of_mem _ List.mem_cons_self)) 0)
       generalize ByteArray.mk q.toArray = X at *
       generalize ByteArray.mk (wordN (i : Int)).toArray = Y at *
       go_wp2_with (go_at_call 60; refine cS.out.mono ?_; rintro r w5 ⟨rfl, B5⟩; have HL := hid B5; have d1 := c1.out _ B5; have g1 := f1.out _ B5; clear B5)
       go_roundw
       case rel => exact ⟨i + 1, by omega, by omega, by go_num, hid (by have h6 := ((HK.out.later HL.out).swap.setBlk 0 (.int .i64 (i : Int))).swap; rw [SET.out] at h6; rw [hst]; exact h6)⟩
       case measure => simp [intOf]; omega
     · have hq' : ((⟨q.toArray⟩ : ByteArray).toList == (⟨(wordN (i : Int)).toArray⟩ : ByteArray).toList) = false := by rw [ba_ne]; simpa using hq
       have hst : kdP q (i + 1) = kdP q i := by rw [kdP, if_neg (by simp [hq])]
       generalize ByteArray.mk q.toArray = X at *
       generalize ByteArray.mk (wordN (i : Int)).toArray = Y at *
       go_wp2_with (go_at_call 60; refine cS.out.mono ?_; rintro r w5 ⟨rfl, B5⟩; have HL := hid B5; clear B5)
       go_roundw
       case rel => exact ⟨i + 1, by omega, by omega, by go_num, hid (by rw [hst]; exact HK.out.later HL.out)⟩
       case measure => simp [intOf]; omega
   have i12 : i = 12 := by omega
   subst i12
   rw [HQ.out] at HK
   have c0 := cell_in HK.out (P := w.heap.size + 1) (t := 36) (o := 0) (List.mem_cons_of_mem _ List.mem_cons_self) (GET.out _)
   clear hi HQ eq SET
   go_upto_region 11 with fail
   clear c0
   have CN0 := hid (NUM.out k1 xw _ _ _ hk1 HK.out)
   go_upto_region 12 with (go_at_call 108; refine CN0.out.mono ?_; rintro r wb0 ⟨rfl, B⟩; have L0 := hid B; clear B; have cc0 := cell_in L0.out (P := w.heap.size + 1) (t := 36) (o := 1) (List.mem_cons_of_mem _ List.mem_cons_self) rfl; have ff0 := free_at (L0.out.blk (g := w.heap.size + 1) (t := 36) (List.mem_cons_of_mem _ List.mem_cons_self)) 1)
   have M0 := hid ((L0.out.swap.setBlk 1 (.int .i64 (dN l k1 xw))).swap)
   generalize World.setCell _ _ _ = wc0 at *
   clear cc0 ff0 L0 CN0 HK
   have c0 := cell_in M0.out (P := w.heap.size + 1) (t := 36) (o := 0) (List.mem_cons_of_mem _ List.mem_cons_self) (show ((Ev.zero 8).cells.set 1 (.int .i64 (dN l k1 xw)))[0]? = some (.int .i64 8) from rfl)
   obtain ⟨k2, ek2⟩ : ∃ v, Hid (v = dK l k1 xw) := ⟨_, hid rfl⟩
   obtain ⟨x2, ex2⟩ : ∃ v, Hid (v = dNX l k1 xw) := ⟨_, hid rfl⟩
   obtain ⟨C2, eC2⟩ : ∃ v, Hid (v = (Ev.zero 8).cells.set 1 (.int .i64 (dN l k1 xw))) := ⟨_, hid rfl⟩
   have hC2 : C2.length = 33 := by rw [eC2.out]; rfl
   have hk2 : k2 ≤ l.length := by rw [ek2.out]; exact LEK.out _ _ hk1
   rw [← ek2.out, ← ex2.out, ← eC2.out] at M0
   go_upto_region 48 with fail
   clear c0 GET
   have M2 := M0
   clear M0
   obtain ⟨CF, eCF⟩ : ∃ v, Hid (v = putL (Ev.zero 8).cells (tsK 8) (dRun (tsK 8) l k1 xw).1 [ptr 0]) := ⟨_, hid rfl⟩
   have FIN : Hid (C2 = CF ∧ [ptr 0].length = (dRun (tsK 8) l k1 xw).1.length ∧ (∀ W, All (rdB R (.slice (some ⟨g, 0, none⟩) l.length c) k2 x2 ::  cs) W → All (rdB R (.slice (some ⟨g, 0, none⟩) l.length c) (dRun (tsK 8) l k1 xw).2.1 (dRun (tsK 8) l k1 xw).2.2 :: (ownL (dRun (tsK 8) l k1 xw).1 [ptr 0] ++ cs)) W)) := hid (by
     rw [eCF.out]
     
     have h := eC2.out; subst h; have h := ek2.out; subst h; have h := ex2.out; subst h
     exact ⟨rfl, rfl, fun W h => h⟩)
   have hCF : CF.length = 33 := by rw [← FIN.out.1]; exact hC2
   have MF := M2
   rw [FIN.out.1] at MF
   have I36 : Hid ((Tryz.prog.info? 36).map (·.size) = some CF.toArray.size) := hid (by rw [List.size_toArray, hCF]; kernel_rfl)
   have Z36 : Hid ((Ev.zero 0).cells.toArray.size = CF.toArray.size) := hid ((show (Ev.zero 0).cells.toArray.size = 33 from rfl).trans (by rw [List.size_toArray, hCF]))
   have O36 : Hid (CF.toArray.all (·.oneCell') = true) := hid (all_oneCell_toArray (by
     rw [eCF.out]
     have h1 := FIN.out.2.2 _ ((MF.out.swap.tail).swap.tail)
     exact putL_one (zero_one _) h1.tail))
   have HB3 := hid (MF.out.blk (g := w.heap.size + 1) (t := 36) (List.mem_cons_of_mem _ List.mem_cons_self))
   have HBg := hid (MF.out.blk (g := w.heap.size) (t := 36) (List.mem_cons_of_mem _ (List.mem_cons_of_mem _ List.mem_cons_self)))
   have K6 := hid ((MF.out.perm (List.perm_middle (l₁ := [_, _]))).setRow (vs' := CF))
   clear M2 ek2 ex2 eC2 hC2
   go_wp2_with (first | (refine wpList_load_row rfl 36 _ rfl (w.heap.size + 1) rfl 36 CF.toArray (0, 0) _ HB3.out Tryz.underlying36 rfl I36.out ?_) | (refine wpList_store_row rfl 36 _ _ rfl w.heap.size CF.toArray rfl rfl 36 _ HBg.out I36.out Z36.out O36.out ?_))
   refine ret_evD rfl rfl (K6.out.blk List.mem_cons_self) hCF rfl ⟨[ptr 0], FIN.out.2.1, by rw [← eCF.out], FIN.out.2.2 _ K6.out.tail.swap.tail⟩
end Go.Proofs.YtfeppannfcbakaaGreatDoor

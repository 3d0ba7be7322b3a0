import Derived.Test.YtfeppannfcbakaaGreatDoorJ13
namespace Go.Proofs.YtfeppannfcbakaaGreatDoor
open Go.RowKit
set_option linter.unusedVariables false
set_option maxRecDepth 1000000
set_option maxHeartbeats 12800000
theorem revent_b {R g c : Nat} {l : Ws} {k : Nat} {x : Int} {cs : List Comp} {w : World} (hk : k ≤ l.length) (hl16 : l.length * 16 ≤ 140737488355328) (hs : ∀ y ∈ l, y.length ≤ 140737488355328) (hS : ∀ W, All cs W → Rt W (.slice (some ⟨g, 0, none⟩) l.length c) l) (hq : kdP (dW l k x) 12 = 2) (A : All (rdB R (.slice (some ⟨g, 0, none⟩) l.length c) k x :: cs) w) :
   Calls Tryz.prog 74 #[.pointer (some ⟨R, 0, none⟩)] w (DEPost 2 R (.slice (some ⟨g, 0, none⟩) l.length c) l (dK l k x) (dX l k x) cs) := by
 have hl : l.length ≤ 140737488355328 := by omega
 obtain ⟨q, eq⟩ : ∃ v, Hid (v = dW l k x) := ⟨_, hid rfl⟩
 obtain ⟨k1, ek1⟩ : ∃ v, Hid (v = dK l k x) := ⟨_, hid rfl⟩
 obtain ⟨xw, exw⟩ : ∃ v, Hid (v = dX l k x) := ⟨_, hid rfl⟩
 rw [← eq.out] at hq
 have HQ := hid hq
 clear hq
 rw [← ek1.out, ← exw.out]
 have WRD : Hid (∀ (k : Nat) (x : Int) (c1 c2 : Comp) W, k ≤ l.length → All (rdB R (.slice (some ⟨g, 0, none⟩) l.length c) k x :: c1 :: c2 :: cs) W → Calls Tryz.prog 107 #[.pointer (some ⟨R, 0, none⟩)] W fun r w' => r = .returned (.string ⟨(dW l k x).toArray⟩) ∧ All (rdB R (.slice (some ⟨g, 0, none⟩) l.length c) (dK l k x) (dX l k x) :: c1 :: c2 :: cs) w') := hid (fun k x c1 c2 W hk h => rword_any hk hl (fun V hV => hS V hV.tail.tail) h)
 have NUM : Hid (∀ (k : Nat) (x : Int) (c1 c2 : Comp) W, k ≤ l.length → All (rdB R (.slice (some ⟨g, 0, none⟩) l.length c) k x :: c1 :: c2 :: cs) W → Calls Tryz.prog 108 #[.pointer (some ⟨R, 0, none⟩)] W fun r w' => r = .returned (.int .i64 (dN l k x)) ∧ All (rdB R (.slice (some ⟨g, 0, none⟩) l.length c) (dK l k x) (dNX l k x) :: c1 :: c2 :: cs) w') := hid (fun k x c1 c2 W hk h => rnumber_any hk hl hs (fun V hV => hS V hV.tail.tail) h)
 have OPR : Hid (∀ (k : Nat) (x : Int) (c1 c2 : Comp) W, k ≤ l.length → All (rdB R (.slice (some ⟨g, 0, none⟩) l.length c) k x :: c1 :: c2 :: cs) W → Calls Tryz.prog 109 #[.pointer (some ⟨R, 0, none⟩)] W fun e w' => e = .returned (opV (dO l k x).o.k ⟨(dO l k x).o.nm.toArray⟩ ⟨(dO l k x).o.tx.toArray⟩ ((dO l k x).o.n : Int) ((dO l k x).o.m : Int)) ∧ All (rdB R (.slice (some ⟨g, 0, none⟩) l.length c) (k + (dO l k x).k) (flE x (dO l k x).e) :: c1 :: c2 :: cs) w') := hid (fun k x c1 c2 W hk h => rop_doc hk hl hs (fun V hV => hS V hV.tail.tail) h)
 have LEO : Hid (∀ (k : Nat) (x : Int), k ≤ l.length → k + (dO l k x).k ≤ l.length) := hid (fun k x hk => dO_le hk)
 have LEK : Hid (∀ (k : Nat) (x : Int), k ≤ l.length → dK l k x ≤ l.length) := hid (fun k x hk => dK_le hk)
 have A1 := hid (((A.addBlk zC 36).addBlk zC 36).perm (List.perm_middle (l₁ := [_, _])))
 have sz : ∀ (V : World) (o : Obj), (V.alloc o).heap.size = V.heap.size + 1 := fun V o => by simp
 rw [sz] at A1
 have I36 : Hid ((Tryz.prog.info? 36).map (·.size) = some (zC.toArray : Array Value).size) := hid (by kernel_rfl)
 have O36 : Hid ((zC.toArray : Array Value).all (·.oneCell') = true) := hid (by kernel_rfl)
 have K0 := hid ((A1.out.swap.setRow (vs' := zC)).swap)
 have HBn := hid (A1.out.blk (g := w.heap.size + 1) (t := 36) (List.mem_cons_of_mem _ List.mem_cons_self))
 clear A hS hs sz A1
 go_enter Tryz.func74, Tryz.ntmps74
 go_upto_region 2 with (refine wpList_store_row rfl 36 _ _ rfl (w.heap.size + 1) zC.toArray rfl rfl 36 _ HBn.out I36.out rfl O36.out ?_)
 generalize World.setRow _ _ _ = wa0 at *
 clear HBn I36 O36
 have CW := hid (WRD.out k x _ _ _ hk K0.out)
 have hk1 : k1 ≤ l.length := by rw [ek1.out]; exact dK_le hk
 rw [← eq.out, ← ek1.out, ← exw.out] at CW
 go_upto_region 3 with (go_at_call 107; refine CW.out.mono ?_; rintro r w2 ⟨rfl, B2⟩; have K2 := hid B2; clear B2)
 have hz : (Ev.zero (kdP q 1)).cells = (Ev.zero 0).cells := by unfold kdP; simp [kdP]
 have K3 : Hid (All (rdB R (.slice (some ⟨g, 0, none⟩) l.length c) k1 xw :: blkC (w.heap.size + 1) (Ev.zero (kdP q 1)).cells 36 :: blkC w.heap.size (Ev.zero 0).cells 36 :: cs) w2) := hid (by rw [hz]; exact K2.out)
 have SET : Hid (∀ (a b : Int), (Ev.zero a).cells.set 0 (.int .i64 b) = (Ev.zero b).cells) := hid (fun _ _ => rfl)
 have GET : Hid (∀ a : Int, (Ev.zero a).cells[0]? = some (.int .i64 a)) := hid (fun _ => rfl)
 clear hz K2 CW K0 WRD
 go_wp2
 go_loopw [5] (fun iv wr => ∃ i : Nat, 1 ≤ i ∧ i ≤ 12 ∧ iv = .int .i64 (i : Int) ∧ Hid (All (rdB R (.slice (some ⟨g, 0, none⟩) l.length c) k1 xw :: blkC (w.heap.size + 1) (Ev.zero (kdP q i)).cells 36 :: blkC w.heap.size (Ev.zero 0).cells 36 :: cs) wr)) (fun iv _ => 13 - (intOf iv).toNat)
 case atStart => exact ⟨1, by omega, by omega, rfl, K3⟩
 case round =>
   obtain ⟨i, h1, h4, rfl, HK⟩ := hrel
   clear K3
   by_cases hi : i ≤ 11
   · have hi' : (i : Int) ≤ 11 := by omega
     have cS := hid (word_any (i : Int) wr)
     by_cases hq : q = wordN (i : Int)
     · have hq' : ((⟨q.toArray⟩ : ByteArray).toList == (⟨(wordN (i : Int)).toArray⟩ : ByteArray).toList) = true := by rw [ba_ne]; simpa using hq
       have hst : kdP q (i + 1) = (i : Int) := by rw [kdP, if_pos ⟨by omega, hq⟩]
       have c1 := hid (fun W (h : Below wr.heap.size wr W) => cell_in (HK.out.later h) (P := w.heap.size + 1) (t := 36) (o := 0) (List.mem_cons_of_mem _ List.mem_cons_self) (GET.out _))
       have f1 := hid (fun W (h : Below wr.heap.size wr W) => free_at ((HK.out.later h).blk (g := w.heap.size + 1) (t := 36) (List.mem_cons_of_mem _ List.mem_cons_self)) 0)
       generalize ByteArray.mk q.toArray = X at *
       generalize ByteArray.mk (wordN (i : Int)).toArray = Y at *
       go_wp2_with (go_at_call 60; refine cS.out.mono ?_; rintro r w5 ⟨rfl, B5⟩; have HL := hid B5; have d1 := c1.out _ B5; have g1 := f1.out _ B5; clear B5)
       go_roundw
       case rel => exact ⟨i + 1, by omega, by omega, by go_num, hid (by have h6 := ((HK.out.later HL.out).swap.setBlk 0 (.int .i64 (i : Int))).swap; rw [SET.out] at h6; rw [hst]; exact h6)⟩
       case measure => simp [intOf]; omega
     · have hq' : ((⟨q.toArray⟩ : ByteArray).toList == (⟨(wordN (i : Int)).toArray⟩ : ByteArray).toList) = false := by rw [ba_ne]; simpa using hq
       have hst : kdP q (i + 1) = kdP q i := by rw [kdP, if_neg (by simp [hq])]
       generalize ByteArray.mk q.toArray = X at *
       generalize ByteArray.mk (wordN (i : Int)).toArray = Y at *
       go_wp2_with (go_at_call 60; refine cS.out.mono ?_; rintro r w5 ⟨rfl, B5⟩; have HL := hid B5; clear B5)
       go_roundw
       case rel => exact ⟨i + 1, by omega, by omega, by go_num, hid (by rw [hst]; exact HK.out.later HL.out)⟩
       case measure => simp [intOf]; omega
   have i12 : i = 12 := by omega
   subst i12
   rw [HQ.out] at HK
   have c0 := cell_in HK.out (P := w.heap.size + 1) (t := 36) (o := 0) (List.mem_cons_of_mem _ List.mem_cons_self) (GET.out _)
   clear hi HQ eq SET
   go_upto_region 11 with fail
   clear c0
   have CN0 := hid (NUM.out k1 xw _ _ _ hk1 HK.out)
   go_upto_region 12 with (go_at_call 108; refine CN0.out.mono ?_; rintro r wb0 ⟨rfl, B⟩; have L0 := hid B; clear B; have cc0 := cell_in L0.out (P := w.heap.size + 1) (t := 36) (o := 1) (List.mem_cons_of_mem _ List.mem_cons_self) rfl; have ff0 := free_at (L0.out.blk (g := w.heap.size + 1) (t := 36) (List.mem_cons_of_mem _ List.mem_cons_self)) 1)
   have M0 := hid ((L0.out.swap.setBlk 1 (.int .i64 (dN l k1 xw))).swap)
   generalize World.setCell _ _ _ = wc0 at *
   clear cc0 ff0 L0 CN0 HK
   have c0 := cell_in M0.out (P := w.heap.size + 1) (t := 36) (o := 0) (List.mem_cons_of_mem _ List.mem_cons_self) (show ((Ev.zero 2).cells.set 1 (.int .i64 (dN l k1 xw)))[0]? = some (.int .i64 2) from rfl)
   obtain ⟨k2, ek2⟩ : ∃ v, Hid (v = dK l k1 xw) := ⟨_, hid rfl⟩
   obtain ⟨x2, ex2⟩ : ∃ v, Hid (v = dNX l k1 xw) := ⟨_, hid rfl⟩
   obtain ⟨C2, eC2⟩ : ∃ v, Hid (v = (Ev.zero 2).cells.set 1 (.int .i64 (dN l k1 xw))) := ⟨_, hid rfl⟩
   have hC2 : C2.length = 33 := by rw [eC2.out]; rfl
   have hk2 : k2 ≤ l.length := by rw [ek2.out]; exact LEK.out _ _ hk1
   rw [← ek2.out, ← ex2.out, ← eC2.out] at M0
   go_upto_region 16 with fail
   clear c0 GET
   have M2 := M0
   clear M0
   have hk2' := hk2
   obtain ⟨vo2, hvo2⟩ := some_at hC2 2 (by decide)
   have CN2 := hid (NUM.out k2 x2 _ _ _ hk2 M2.out)
   go_upto_region 17 with (go_at_call 108; refine CN2.out.mono ?_; rintro r wb2 ⟨rfl, B⟩; have L2 := hid B; clear B; have cc2 := cell_in L2.out (P := w.heap.size + 1) (t := 36) (o := 2) (List.mem_cons_of_mem _ List.mem_cons_self) hvo2; have ff2 := free_at (L2.out.blk (g := w.heap.size + 1) (t := 36) (List.mem_cons_of_mem _ List.mem_cons_self)) 2)
   have M3 := hid ((L2.out.swap.setBlk 2 (.int .i64 (dN l k2 x2))).swap)
   generalize World.setCell _ _ _ = wc2 at *
   clear cc2 ff2 L2 CN2 M2 hvo2 hk2'
   obtain ⟨k3, ek3⟩ : ∃ v, Hid (v = dK l k2 x2) := ⟨_, hid rfl⟩
   obtain ⟨x3, ex3⟩ : ∃ v, Hid (v = dNX l k2 x2) := ⟨_, hid rfl⟩
   obtain ⟨C3, eC3⟩ : ∃ v, Hid (v = C2.set 2 (.int .i64 (dN l k2 x2))) := ⟨_, hid rfl⟩
   have hC3 : C3.length = 33 := by rw [eC3.out, List.length_set]; exact hC2
   have hk3 : k3 ≤ l.length := by rw [ek3.out]; exact LEK.out _ _ hk2
   rw [← ek3.out, ← ex3.out, ← eC3.out] at M3
   have CN3 := hid (OPR.out k3 x3 _ _ _ hk3 M3.out)
   have IO3 : Hid ((Tryz.prog.info? 24).map (·.size) = some (#[.int .i64 (dO l k3 x3).o.k, .string ⟨(dO l k3 x3).o.nm.toArray⟩, .string ⟨(dO l k3 x3).o.tx.toArray⟩, .int .i64 ((dO l k3 x3).o.n : Int), .int .i64 ((dO l k3 x3).o.m : Int)] : Array Value).size) := hid (by kernel_rfl)
   have OO3 : Hid ((#[.int .i64 (dO l k3 x3).o.k, .string ⟨(dO l k3 x3).o.nm.toArray⟩, .string ⟨(dO l k3 x3).o.tx.toArray⟩, .int .i64 ((dO l k3 x3).o.n : Int), .int .i64 ((dO l k3 x3).o.m : Int)] : Array Value).all (·.oneCell') = true) := hid (by simp [Value.oneCell'])
   go_upto_region 48 with (first
     | (go_at_call 109; refine CN3.out.mono ?_; rintro r wb3 ⟨rfl, B⟩; have L3 := hid B; clear B; have TH3 : Hid (wb3.there (w.heap.size + 1) 7 5) := hid (fun z hz => ⟨by rw [cell_at (L3.out.blk (g := w.heap.size + 1) (vs := C3) (t := 36) (List.mem_cons_of_mem _ List.mem_cons_self)), List.getElem?_toArray, List.getElem?_eq_getElem (by omega)]; rfl, free_at (L3.out.blk (g := w.heap.size + 1) (vs := C3) (t := 36) (List.mem_cons_of_mem _ List.mem_cons_self)) _⟩))
     | (refine wpList_store_mid rfl 24 _ _ rfl (w.heap.size + 1) 7 #[.int .i64 (dO l k3 x3).o.k, .string ⟨(dO l k3 x3).o.nm.toArray⟩, .string ⟨(dO l k3 x3).o.tx.toArray⟩, .int .i64 ((dO l k3 x3).o.n : Int), .int .i64 ((dO l k3 x3).o.m : Int)] rfl rfl TH3.out IO3.out OO3.out ?_; rw [List.toList_toArray]))
   have M4 : Hid (All (rdB R (.slice (some ⟨g, 0, none⟩) l.length c) (k3 + (dO l k3 x3).k) (flE x3 (dO l k3 x3).e) :: blkC (w.heap.size + 1) (setOp C3 7 (dO l k3 x3).o) 36 :: blkC w.heap.size (Ev.zero 0).cells 36 :: cs) (wb3.setCells (w.heap.size + 1) 7 [.int .i64 (dO l k3 x3).o.k, .string ⟨(dO l k3 x3).o.nm.toArray⟩, .string ⟨(dO l k3 x3).o.tx.toArray⟩, .int .i64 ((dO l k3 x3).o.n : Int), .int .i64 ((dO l k3 x3).o.m : Int)])) := hid ((((((L3.out.swap.setBlk 7 (.int .i64 (dO l k3 x3).o.k)).setBlk (7 + 1) (.string ⟨(dO l k3 x3).o.nm.toArray⟩)).setBlk (7 + 2) (.string ⟨(dO l k3 x3).o.tx.toArray⟩)).setBlk (7 + 3) (.int .i64 ((dO l k3 x3).o.n : Int))).setBlk (7 + 4) (.int .i64 ((dO l k3 x3).o.m : Int))).swap)
   generalize World.setCells _ _ _ _ = wc3 at *
   clear TH3 L3 CN3 M3 IO3 OO3
   obtain ⟨k4, ek4⟩ : ∃ v, Hid (v = k3 + (dO l k3 x3).k) := ⟨_, hid rfl⟩
   obtain ⟨x4, ex4⟩ : ∃ v, Hid (v = flE x3 (dO l k3 x3).e) := ⟨_, hid rfl⟩
   obtain ⟨C4, eC4⟩ : ∃ v, Hid (v = setOp C3 7 (dO l k3 x3).o) := ⟨_, hid rfl⟩
   have hC4 : C4.length = 33 := by rw [eC4.out]; simp [setOp, hC3]
   have hk4 : k4 ≤ l.length := by rw [ek4.out]; exact LEO.out _ _ hk3
   rw [← ek4.out, ← ex4.out, ← eC4.out] at M4
   obtain ⟨CF, eCF⟩ : ∃ v, Hid (v = putL (Ev.zero 2).cells (tsK 2) (dRun (tsK 2) l k1 xw).1 [ptr 0, ptr 0, ptr 0]) := ⟨_, hid rfl⟩
   have FIN : Hid (C4 = CF ∧ [ptr 0, ptr 0, ptr 0].length = (dRun (tsK 2) l k1 xw).1.length ∧ (∀ W, All (rdB R (.slice (some ⟨g, 0, none⟩) l.length c) k4 x4 ::  cs) W → All (rdB R (.slice (some ⟨g, 0, none⟩) l.length c) (dRun (tsK 2) l k1 xw).2.1 (dRun (tsK 2) l k1 xw).2.2 :: (ownL (dRun (tsK 2) l k1 xw).1 [ptr 0, ptr 0, ptr 0] ++ cs)) W)) := hid (by
     rw [eCF.out]
     have h := eC4.out; subst h; have h := ek4.out; subst h; have h := ex4.out; subst h
     have h := eC3.out; subst h; have h := ek3.out; subst h; have h := ex3.out; subst h
     have h := eC2.out; subst h; have h := ek2.out; subst h; have h := ex2.out; subst h
     exact ⟨rfl, rfl, fun W h => h⟩)
   have hCF : CF.length = 33 := by rw [← FIN.out.1]; exact hC4
   have MF := M4
   rw [FIN.out.1] at MF
   have I36 : Hid ((Tryz.prog.info? 36).map (·.size) = some CF.toArray.size) := hid (by rw [List.size_toArray, hCF]; kernel_rfl)
   have Z36 : Hid ((Ev.zero 0).cells.toArray.size = CF.toArray.size) := hid ((show (Ev.zero 0).cells.toArray.size = 33 from rfl).trans (by rw [List.size_toArray, hCF]))
   have O36 : Hid (CF.toArray.all (·.oneCell') = true) := hid (all_oneCell_toArray (by
     rw [eCF.out]
     have h1 := FIN.out.2.2 _ ((MF.out.swap.tail).swap.tail)
     exact putL_one (zero_one _) h1.tail))
   have HB3 := hid (MF.out.blk (g := w.heap.size + 1) (t := 36) (List.mem_cons_of_mem _ List.mem_cons_self))
   have HBg := hid (MF.out.blk (g := w.heap.size) (t := 36) (List.mem_cons_of_mem _ (List.mem_cons_of_mem _ List.mem_cons_self)))
   have K6 := hid ((MF.out.perm (List.perm_middle (l₁ := [_, _]))).setRow (vs' := CF))
   clear M4 ek2 ex2 eC2 ek3 ex3 eC3 ek4 ex4 eC4 hC4
   go_wp2_with (first | (refine wpList_load_row rfl 36 _ rfl (w.heap.size + 1) rfl 36 CF.toArray (0, 0) _ HB3.out Tryz.underlying36 rfl I36.out ?_) | (refine wpList_store_row rfl 36 _ _ rfl w.heap.size CF.toArray rfl rfl 36 _ HBg.out I36.out Z36.out O36.out ?_))
   refine ret_evD rfl rfl (K6.out.blk List.mem_cons_self) hCF rfl ⟨[ptr 0, ptr 0, ptr 0], FIN.out.2.1, by rw [← eCF.out], FIN.out.2.2 _ K6.out.tail.swap.tail⟩
set_option linter.unusedVariables false
set_option maxRecDepth 1000000
set_option maxHeartbeats 12800000
theorem revent_c {R g c : Nat} {l : Ws} {k : Nat} {x : Int} {cs : List Comp} {w : World} (hk : k ≤ l.length) (hl16 : l.length * 16 ≤ 140737488355328) (hs : ∀ y ∈ l, y.length ≤ 140737488355328) (hS : ∀ W, All cs W → Rt W (.slice (some ⟨g, 0, none⟩) l.length c) l) (hq : kdP (dW l k x) 12 = 3) (A : All (rdB R (.slice (some ⟨g, 0, none⟩) l.length c) k x :: cs) w) :
   Calls Tryz.prog 74 #[.pointer (some ⟨R, 0, none⟩)] w (DEPost 3 R (.slice (some ⟨g, 0, none⟩) l.length c) l (dK l k x) (dX l k x) cs) := by
 have hl : l.length ≤ 140737488355328 := by omega
 obtain ⟨q, eq⟩ : ∃ v, Hid (v = dW l k x) := ⟨_, hid rfl⟩
 obtain ⟨k1, ek1⟩ : ∃ v, Hid (v = dK l k x) := ⟨_, hid rfl⟩
 obtain ⟨xw, exw⟩ : ∃ v, Hid (v = dX l k x) := ⟨_, hid rfl⟩
 rw [← eq.out] at hq
 have HQ := hid hq
 clear hq
 rw [← ek1.out, ← exw.out]
 have WRD : Hid (∀ (k : Nat) (x : Int) (c1 c2 : Comp) W, k ≤ l.length → All (rdB R (.slice (some ⟨g, 0, none⟩) l.length c) k x :: c1 :: c2 :: cs) W → Calls Tryz.prog 107 #[.pointer (some ⟨R, 0, none⟩)] W fun r w' => r = .returned (.string ⟨(dW l k x).toArray⟩) ∧ All (rdB R (.slice (some ⟨g, 0, none⟩) l.length c) (dK l k x) (dX l k x) :: c1 :: c2 :: cs) w') := hid (fun k x c1 c2 W hk h => rword_any hk hl (fun V hV => hS V hV.tail.tail) h)
 have NUM : Hid (∀ (k : Nat) (x : Int) (c1 c2 : Comp) W, k ≤ l.length → All (rdB R (.slice (some ⟨g, 0, none⟩) l.length c) k x :: c1 :: c2 :: cs) W → Calls Tryz.prog 108 #[.pointer (some ⟨R, 0, none⟩)] W fun r w' => r = .returned (.int .i64 (dN l k x)) ∧ All (rdB R (.slice (some ⟨g, 0, none⟩) l.length c) (dK l k x) (dNX l k x) :: c1 :: c2 :: cs) w') := hid (fun k x c1 c2 W hk h => rnumber_any hk hl hs (fun V hV => hS V hV.tail.tail) h)
 have OPR : Hid (∀ (k : Nat) (x : Int) (c1 c2 : Comp) W, k ≤ l.length → All (rdB R (.slice (some ⟨g, 0, none⟩) l.length c) k x :: c1 :: c2 :: cs) W → Calls Tryz.prog 109 #[.pointer (some ⟨R, 0, none⟩)] W fun e w' => e = .returned (opV (dO l k x).o.k ⟨(dO l k x).o.nm.toArray⟩ ⟨(dO l k x).o.tx.toArray⟩ ((dO l k x).o.n : Int) ((dO l k x).o.m : Int)) ∧ All (rdB R (.slice (some ⟨g, 0, none⟩) l.length c) (k + (dO l k x).k) (flE x (dO l k x).e) :: c1 :: c2 :: cs) w') := hid (fun k x c1 c2 W hk h => rop_doc hk hl hs (fun V hV => hS V hV.tail.tail) h)
 have LEO : Hid (∀ (k : Nat) (x : Int), k ≤ l.length → k + (dO l k x).k ≤ l.length) := hid (fun k x hk => dO_le hk)
 have LEK : Hid (∀ (k : Nat) (x : Int), k ≤ l.length → dK l k x ≤ l.length) := hid (fun k x hk => dK_le hk)
 have A1 := hid (((A.addBlk zC 36).addBlk zC 36).perm (List.perm_middle (l₁ := [_, _])))
 have sz : ∀ (V : World) (o : Obj), (V.alloc o).heap.size = V.heap.size + 1 := fun V o => by simp
 rw [sz] at A1
 have I36 : Hid ((Tryz.prog.info? 36).map (·.size) = some (zC.toArray : Array Value).size) := hid (by kernel_rfl)
 have O36 : Hid ((zC.toArray : Array Value).all (·.oneCell') = true) := hid (by kernel_rfl)
 have K0 := hid ((A1.out.swap.setRow (vs' := zC)).swap)
 have HBn := hid (A1.out.blk (g := w.heap.size + 1) (t := 36) (List.mem_cons_of_mem _ List.mem_cons_self))
 clear A hS hs sz A1
 go_enter Tryz.func74, Tryz.ntmps74
 go_upto_region 2 with (refine wpList_store_row rfl 36 _ _ rfl (w.heap.size + 1) zC.toArray rfl rfl 36 _ HBn.out I36.out rfl O36.out ?_)
 generalize World.setRow _ _ _ = wa0 at *
 clear HBn I36 O36
 have CW := hid (WRD.out k x _ _ _ hk K0.out)
 have hk1 : k1 ≤ l.length := by rw [ek1.out]; exact dK_le hk
 rw [← eq.out, ← ek1.out, ← exw.out] at CW
 go_upto_region 3 with (go_at_call 107; refine CW.out.mono ?_; rintro r w2 ⟨rfl, B2⟩; have K2 := hid B2; clear B2)
 have hz : (Ev.zero (kdP q 1)).cells = (Ev.zero 0).cells := by unfold kdP; simp [kdP]
 have K3 : Hid (All (rdB R (.slice (some ⟨g, 0, none⟩) l.length c) k1 xw :: blkC (w.heap.size + 1) (Ev.zero (kdP q 1)).cells 36 :: blkC w.heap.size (Ev.zero 0).cells 36 :: cs) w2) := hid (by rw [hz]; exact K2.out)
 have SET : Hid (∀ (a b : Int), (Ev.zero a).cells.set 0 (.int .i64 b) = (Ev.zero b).cells) := hid (fun _ _ => rfl)
 have GET : Hid (∀ a : Int, (Ev.zero a).cells[0]? = some (.int .i64 a)) := hid (fun _ => rfl)
 clear hz K2 CW K0 WRD
 go_wp2
 go_loopw [5] (fun iv wr => ∃ i : Nat, 1 ≤ i ∧ i ≤ 12 ∧ iv = .int .i64 (i : Int) ∧ Hid (All (rdB R (.slice (some ⟨g, 0, none⟩) l.length c) k1 xw :: blkC (w.heap.size + 1) (Ev.zero (kdP q i)).cells 36 :: blkC w.heap.size (Ev.zero 0).cells 36 :: cs) wr)) (fun iv _ => 13 - (intOf iv).toNat)
 case atStart => exact ⟨1, by omega, by omega, rfl, K3⟩
 case round =>
   obtain ⟨i, h1, h4, rfl, HK⟩ := hrel
   clear K3
   by_cases hi : i ≤ 11
   · have hi' : (i : Int) ≤ 11 := by omega
     have cS := hid (word_any (i : Int) wr)
     by_cases hq : q = wordN (i : Int)
     · have hq' : ((⟨q.toArray⟩ : ByteArray).toList == (⟨(wordN (i : Int)).toArray⟩ : ByteArray).toList) = true := by rw [ba_ne]; simpa using hq
       have hst : kdP q (i + 1) = (i : Int) := by rw [kdP, if_pos ⟨by omega, hq⟩]
       have c1 := hid (fun W (h : Below wr.heap.size wr W) => cell_in (HK.out.later h) (P := w.heap.size + 1) (t := 36) (o := 0) (List.mem_cons_of_mem _ List.mem_cons_self) (GET.out _))
       have f1 := hid (fun W (h : Below wr.heap.size wr W) => free_at ((HK.out.later h).blk (g := w.heap.size + 1) (t := 36) (List.mem_cons_of_mem _ List.mem_cons_self)) 0)
       generalize ByteArray.mk q.toArray = X at *
       generalize ByteArray.mk (wordN (i : Int)).toArray = Y at *
       go_wp2_with (go_at_call 60; refine cS.out.mono ?_; rintro r w5 ⟨rfl, B5⟩; have HL := hid B5; have d1 := c1.out _ B5; have g1 := f1.out _ B5; clear B5)
       go_roundw
       case rel => exact ⟨i + 1, by omega, by omega, by go_num, hid (by have h6 := ((HK.out.later HL.out).swap.setBlk 0 (.int .i64 (i : Int))).swap; rw [SET.out] at h6; rw [hst]; exact h6)⟩
       case measure => simp [intOf]; omega
     · have hq' : ((⟨q.toArray⟩ : ByteArray).toList == (⟨(wordN (i : Int)).toArray⟩ : ByteArray).toList) = false := by rw [ba_ne]; simpa using hq
       have hst : kdP q (i + 1) = kdP q i := by rw [kdP, if_neg (by simp [hq])]
       generalize ByteArray.mk q.toArray = X at *
       generalize ByteArray.mk (wordN (i : Int)).toArray = Y at *
       go_wp2_with (go_at_call 60; refine cS.out.mono ?_; rintro r w5 ⟨rfl, B5⟩; have HL := hid B5; clear B5)
       go_roundw
       case rel => exact ⟨i + 1, by omega, by omega, by go_num, hid (by rw [hst]; exact HK.out.later HL.out)⟩
       case measure => simp [intOf]; omega
   have i12 : i = 12 := by omega
   subst i12
   rw [HQ.out] at HK
   have c0 := cell_in HK.out (P := w.heap.size + 1) (t := 36) (o := 0) (List.mem_cons_of_mem _ List.mem_cons_self) (GET.out _)
   clear hi HQ eq SET
   go_upto_region 11 with fail
   clear c0
   have CN0 := hid (NUM.out k1 xw _ _ _ hk1 HK.out)
   go_upto_region 12 with (go_at_call 108; refine CN0.out.mono ?_; rintro r wb0 ⟨rfl, B⟩; have L0 := hid B; clear B; have cc0 := cell_in L0.out (P := w.heap.size + 1) (t := 36) (o := 1) (List.mem_cons_of_mem _ List.mem_cons_self) rfl; have ff0 := free_at (L0.out.blk (g := w.heap.size + 1) (t := 36) (List.mem_cons_of_mem _ List.mem_cons_self)) 1)
   have M0 := hid ((L0.out.swap.setBlk 1 (.int .i64 (dN l k1 xw))).swap)
   generalize World.setCell _ _ _ = wc0 at *
   clear cc0 ff0 L0 CN0 HK
   have c0 := cell_in M0.out (P := w.heap.size + 1) (t := 36) (o := 0) (List.mem_cons_of_mem _ List.mem_cons_self) (show ((Ev.zero 3).cells.set 1 (.int .i64 (dN l k1 xw)))[0]? = some (.int .i64 3) from rfl)
   obtain ⟨k2, ek2⟩ : ∃ v, Hid (v = dK l k1 xw) := ⟨_, hid rfl⟩
   obtain ⟨x2, ex2⟩ : ∃ v, Hid (v = dNX l k1 xw) := ⟨_, hid rfl⟩
   obtain ⟨C2, eC2⟩ : ∃ v, Hid (v = (Ev.zero 3).cells.set 1 (.int .i64 (dN l k1 xw))) := ⟨_, hid rfl⟩
   have hC2 : C2.length = 33 := by rw [eC2.out]; rfl
   have hk2 : k2 ≤ l.length := by rw [ek2.out]; exact LEK.out _ _ hk1
   rw [← ek2.out, ← ex2.out, ← eC2.out] at M0
   go_upto_region 19 with fail
   clear c0 GET
   have M2 := M0
   clear M0
   have hk2' := hk2
   obtain ⟨vo2, hvo2⟩ := some_at hC2 2 (by decide)
   have CN2 := hid (NUM.out k2 x2 _ _ _ hk2 M2.out)
   go_upto_region 20 with (go_at_call 108; refine CN2.out.mono ?_; rintro r wb2 ⟨rfl, B⟩; have L2 := hid B; clear B; have cc2 := cell_in L2.out (P := w.heap.size + 1) (t := 36) (o := 2) (List.mem_cons_of_mem _ List.mem_cons_self) hvo2; have ff2 := free_at (L2.out.blk (g := w.heap.size + 1) (t := 36) (List.mem_cons_of_mem _ List.mem_cons_self)) 2)
   have M3 := hid ((L2.out.swap.setBlk 2 (.int .i64 (dN l k2 x2))).swap)
   generalize World.setCell _ _ _ = wc2 at *
   clear cc2 ff2 L2 CN2 M2 hvo2 hk2'
   obtain ⟨k3, ek3⟩ : ∃ v, Hid (v = dK l k2 x2) := ⟨_, hid rfl⟩
   obtain ⟨x3, ex3⟩ : ∃ v, Hid (v = dNX l k2 x2) := ⟨_, hid rfl⟩
   obtain ⟨C3, eC3⟩ : ∃ v, Hid (v = C2.set 2 (.int .i64 (dN l k2 x2))) := ⟨_, hid rfl⟩
   have hC3 : C3.length = 33 := by rw [eC3.out, List.length_set]; exact hC2
   have hk3 : k3 ≤ l.length := by rw [ek3.out]; exact LEK.out _ _ hk2
   rw [← ek3.out, ← ex3.out, ← eC3.out] at M3
   have hk3' := hk3
   obtain ⟨vo3, hvo3⟩ := some_at hC3 4 (by decide)
   have CN3 := hid (NUM.out k3 x3 _ _ _ hk3 M3.out)
   go_upto_region 21 with (go_at_call 108; refine CN3.out.mono ?_; rintro r wb3 ⟨rfl, B⟩; have L3 := hid B; clear B; have cc3 := cell_in L3.out (P := w.heap.size + 1) (t := 36) (o := 4) (List.mem_cons_of_mem _ List.mem_cons_self) hvo3; have ff3 := free_at (L3.out.blk (g := w.heap.size + 1) (t := 36) (List.mem_cons_of_mem _ List.mem_cons_self)) 4)
   have M4 := hid ((L3.out.swap.setBlk 4 (.int .i64 (dN l k3 x3))).swap)
   generalize World.setCell _ _ _ = wc3 at *
   clear cc3 ff3 L3 CN3 M3 hvo3 hk3'
   obtain ⟨k4, ek4⟩ : ∃ v, Hid (v = dK l k3 x3) := ⟨_, hid rfl⟩
   obtain ⟨x4, ex4⟩ : ∃ v, Hid (v = dNX l k3 x3) := ⟨_, hid rfl⟩
   obtain ⟨C4, eC4⟩ : ∃ v, Hid (v = C3.set 4 (.int .i64 (dN l k3 x3))) := ⟨_, hid rfl⟩
   have hC4 : C4.length = 33 := by rw [eC4.out, List.length_set]; exact hC3
   have hk4 : k4 ≤ l.length := by rw [ek4.out]; exact LEK.out _ _ hk3
   rw [← ek4.out, ← ex4.out, ← eC4.out] at M4
   have CN4 := hid (OPR.out k4 x4 _ _ _ hk4 M4.out)
   have IO4 : Hid ((Tryz.prog.info? 24).map (·.size) = some (#[.int .i64 (dO l k4 x4).o.k, .string ⟨(dO l k4 x4).o.nm.toArray⟩, .string ⟨(dO l k4 x4).o.tx.toArray⟩, .int .i64 ((dO l k4 x4).o.n : Int), .int .i64 ((dO l k4 x4).o.m : Int)] : Array Value).size) := hid (by kernel_rfl)
   have OO4 : Hid ((#[.int .i64 (dO l k4 x4).o.k, .string ⟨(dO l k4 x4).o.nm.toArray⟩, .string ⟨(dO l k4 x4).o.tx.toArray⟩, .int .i64 ((dO l k4 x4).o.n : Int), .int .i64 ((dO l k4 x4).o.m : Int)] : Array Value).all (·.oneCell') = true) := hid (by simp [Value.oneCell'])
   go_upto_region 48 with (first
     | (go_at_call 109; refine CN4.out.mono ?_; rintro r wb4 ⟨rfl, B⟩; have L4 := hid B; clear B; have TH4 : Hid (wb4.there (w.heap.size + 1) 7 5) := hid (fun z hz => ⟨by rw [cell_at (L4.out.blk (g := w.heap.size + 1) (vs := C4) (t := 36) (List.mem_cons_of_mem _ List.mem_cons_self)), List.getElem?_toArray, List.getElem?_eq_getElem (by omega)]; rfl, free_at (L4.out.blk (g := w.heap.size + 1) (vs := C4) (t := 36) (List.mem_cons_of_mem _ List.mem_cons_self)) _⟩))
     | (refine wpList_store_mid rfl 24 _ _ rfl (w.heap.size + 1) 7 #[.int .i64 (dO l k4 x4).o.k, .string ⟨(dO l k4 x4).o.nm.toArray⟩, .string ⟨(dO l k4 x4).o.tx.toArray⟩, .int .i64 ((dO l k4 x4).o.n : Int), .int .i64 ((dO l k4 x4).o.m : Int)] rfl rfl TH4.out IO4.out OO4.out ?_; rw [List.toList_toArray]))
   have M5 : Hid (All (rdB R (.slice (some ⟨g, 0, none⟩) l.length c) (k4 + (dO l k4 x4).k) (flE x4 (dO l k4 x4).e) :: blkC (w.heap.size + 1) (setOp C4 7 (dO l k4 x4).o) 36 :: blkC w.heap.size (Ev.zero 0).cells 36 :: cs) (wb4.setCells (w.heap.size + 1) 7 [.int .i64 (dO l k4 x4).o.k, .string ⟨(dO l k4 x4).o.nm.toArray⟩, .string ⟨(dO l k4 x4).o.tx.toArray⟩, .int .i64 ((dO l k4 x4).o.n : Int), .int .i64 ((dO l k4 x4).o.m : Int)])) := hid ((((((L4.out.swap.setBlk 7 (.int .i64 (dO l k4 x4).o.k)).setBlk (7 + 1) (.string ⟨(dO l k4 x4).o.nm.toArray⟩)).setBlk (7 + 2) (.string ⟨(dO l k4 x4).o.tx.toArray⟩)).setBlk (7 + 3) (.int .i64 ((dO l k4 x4).o.n : Int))).setBlk (7 + 4) (.int .i64 ((dO l k4 x4).o.m : Int))).swap)
   generalize World.setCells _ _ _ _ = wc4 at *
   clear TH4 L4 CN4 M4 IO4 OO4
   obtain ⟨k5, ek5⟩ : ∃ v, Hid (v = k4 + (dO l k4 x4).k) := ⟨_, hid rfl⟩
   obtain ⟨x5, ex5⟩ : ∃ v, Hid (v = flE x4 (dO l k4 x4).e) := ⟨_, hid rfl⟩
   obtain ⟨C5, eC5⟩ : ∃ v, Hid (v = setOp C4 7 (dO l k4 x4).o) := ⟨_, hid rfl⟩
   have hC5 : C5.length = 33 := by rw [eC5.out]; simp [setOp, hC4]
   have hk5 : k5 ≤ l.length := by rw [ek5.out]; exact LEO.out _ _ hk4
   rw [← ek5.out, ← ex5.out, ← eC5.out] at M5
   obtain ⟨CF, eCF⟩ : ∃ v, Hid (v = putL (Ev.zero 3).cells (tsK 3) (dRun (tsK 3) l k1 xw).1 [ptr 0, ptr 0, ptr 0, ptr 0]) := ⟨_, hid rfl⟩
   have FIN : Hid (C5 = CF ∧ [ptr 0, ptr 0, ptr 0, ptr 0].length = (dRun (tsK 3) l k1 xw).1.length ∧ (∀ W, All (rdB R (.slice (some ⟨g, 0, none⟩) l.length c) k5 x5 ::  cs) W → All (rdB R (.slice (some ⟨g, 0, none⟩) l.length c) (dRun (tsK 3) l k1 xw).2.1 (dRun (tsK 3) l k1 xw).2.2 :: (ownL (dRun (tsK 3) l k1 xw).1 [ptr 0, ptr 0, ptr 0, ptr 0] ++ cs)) W)) := hid (by
     rw [eCF.out]
     have h := eC5.out; subst h; have h := ek5.out; subst h; have h := ex5.out; subst h
     have h := eC4.out; subst h; have h := ek4.out; subst h; have h := ex4.out; subst h
     have h := eC3.out; subst h; have h := ek3.out; subst h; have h := ex3.out; subst h
     have h := eC2.out; subst h; have h := ek2.out; subst h; have h := ex2.out; subst h
     exact ⟨rfl, rfl, fun W h => h⟩)
   have hCF : CF.length = 33 := by rw [← FIN.out.1]; exact hC5
   have MF := M5
   rw [FIN.out.1] at MF
   have I36 : Hid ((Tryz.prog.info? 36).map (·.size) = some CF.toArray.size) := hid (by rw [List.size_toArray, hCF]; kernel_rfl)
   have Z36 : Hid ((Ev.zero 0).cells.toArray.size = CF.toArray.size) := hid ((show (Ev.zero 0).cells.toArray.size = 33 from rfl).trans (by rw [List.size_toArray, hCF]))
   have O36 : Hid (CF.toArray.all (·.oneCell') = true) := hid (all_oneCell_toArray (by
     rw [eCF.out]
     have h1 := FIN.out.2.2 _ ((MF.out.swap.tail).swap.tail)
     exact putL_one (zero_one _) h1.tail))
   have HB3 := hid (MF.out.blk (g := w.heap.size + 1) (t := 36) (List.mem_cons_of_mem _ List.mem_cons_self))
   have HBg := hid (MF.out.blk (g := w.heap.size) (t := 36) (List.mem_cons_of_mem _ (List.mem_cons_of_mem _ List.mem_cons_self)))
   have K6 := hid ((MF.out.perm (List.perm_middle (l₁ := [_, _]))).setRow (vs' := CF))
   clear M5 ek2 ex2 eC2 ek3 ex3 eC3 ek4 ex4 eC4 ek5 ex5 eC5 hC5
   go_wp2_with (first | (refine wpList_load_row rfl 36 _ rfl (w.heap.size + 1) rfl 36 CF.toArray (0, 0) _ HB3.out Tryz.underlying36 rfl I36.out ?_) | (refine wpList_store_row rfl 36 _ _ rfl w.heap.size CF.toArray rfl rfl 36 _ HBg.out I36.out Z36.out O36.out ?_))
   refine ret_evD rfl rfl (K6.out.blk List.mem_cons_self) hCF rfl ⟨[ptr 0, ptr 0, ptr 0, ptr 0], FIN.out.2.1, by rw [← eCF.out], FIN.out.2.2 _ K6.out.tail.swap.tail⟩
set_option linter.unusedVariables false
set_option maxRecDepth 1000000
set_option maxHeartbeats 12800000
theorem revent_d {R g c : Nat} {l : Ws} {k : Nat} {x : Int} {cs : List Comp} {w : World} (hk : k ≤ l.length) (hl16 : l.length * 16 ≤ 140737488355328) (hs : ∀ y ∈ l, y.length ≤ 140737488355328) (hS : ∀ W, All cs W → Rt W (.slice (some ⟨g, 0, none⟩) l.length c) l) (hq : kdP (dW l k x) 12 = 4) (A : All (rdB R (.slice (some ⟨g, 0, none⟩) l.length c) k x :: cs) w) :
   Calls Tryz.prog 74 #[.pointer (some ⟨R, 0, none⟩)] w (DEPost 4 R (.slice (some ⟨g, 0, none⟩) l.length c) l (dK l k x) (dX l k x) cs) := by
 have hl : l.length ≤ 140737488355328 := by omega
 obtain ⟨q, eq⟩ : ∃ v, Hid (v = dW l k x) := ⟨_, hid rfl⟩
 obtain ⟨k1, ek1⟩ : ∃ v, Hid (v = dK l k x) := ⟨_, hid rfl⟩
 obtain ⟨xw, exw⟩ : ∃ v, Hid (v = dX l k x) := ⟨_, hid rfl⟩
 rw [← eq.out] at hq
 have HQ := hid hq
 clear hq
 rw [← ek1.out, ← exw.out]
 have WRD : Hid (∀ (k : Nat) (x : Int) (c1 c2 : Comp) W, k ≤ l.length → All (rdB R (.slice (some ⟨g, 0, none⟩) l.length c) k x :: c1 :: c2 :: cs) W → Calls Tryz.prog 107 #[.pointer (some ⟨R, 0, none⟩)] W fun r w' => r = .returned (.string ⟨(dW l k x).toArray⟩) ∧ All (rdB R (.slice (some ⟨g, 0, none⟩) l.length c) (dK l k x) (dX l k x) :: c1 :: c2 :: cs) w') := hid (fun k x c1 c2 W hk h => rword_any hk hl (fun V hV => hS V hV.tail.tail) h)
 have NUM : Hid (∀ (k : Nat) (x : Int) (c1 c2 : Comp) W, k ≤ l.length → All (rdB R (.slice (some ⟨g, 0, none⟩) l.length c) k x :: c1 :: c2 :: cs) W → Calls Tryz.prog 108 #[.pointer (some ⟨R, 0, none⟩)] W fun r w' => r = .returned (.int .i64 (dN l k x)) ∧ All (rdB R (.slice (some ⟨g, 0, none⟩) l.length c) (dK l k x) (dNX l k x) :: c1 :: c2 :: cs) w') := hid (fun k x c1 c2 W hk h => rnumber_any hk hl hs (fun V hV => hS V hV.tail.tail) h)
 have RSR : Hid (∀ (k : Nat) (x : Int) (c1 c2 : Comp) W, k ≤ l.length → All (rdB R (.slice (some ⟨g, 0, none⟩) l.length c) k x :: c1 :: c2 :: cs) W → Calls Tryz.prog 110 #[.pointer (some ⟨R, 0, none⟩)] W fun e w' => ∃ va vc, e = .returned (.agg #[.int .i64 (dR l k x).c, .int .i64 (dR l k x).n, .slice va (dR l k x).items.length vc]) ∧ All (ownC 9 (.slice va (dR l k x).items.length vc) (txW (dR l k x).items) :: rdB R (.slice (some ⟨g, 0, none⟩) l.length c) (k + (dR l k x).k) (flE x (dR l k x).e) :: c1 :: c2 :: cs) w') := hid (fun k x c1 c2 W hk h => rres_doc hk hl16 hs (fun V hV => hS V hV.tail.tail) h)
 have LEK : Hid (∀ (k : Nat) (x : Int), k ≤ l.length → dK l k x ≤ l.length) := hid (fun k x hk => dK_le hk)
 have A1 := hid (((A.addBlk zC 36).addBlk zC 36).perm (List.perm_middle (l₁ := [_, _])))
 have sz : ∀ (V : World) (o : Obj), (V.alloc o).heap.size = V.heap.size + 1 := fun V o => by simp
 rw [sz] at A1
 have I36 : Hid ((Tryz.prog.info? 36).map (·.size) = some (zC.toArray : Array Value).size) := hid (by kernel_rfl)
 have O36 : Hid ((zC.toArray : Array Value).all (·.oneCell') = true) := hid (by kernel_rfl)
 have K0 := hid ((A1.out.swap.setRow (vs' := zC)).swap)
 have HBn := hid (A1.out.blk (g := w.heap.size + 1) (t := 36) (List.mem_cons_of_mem _ List.mem_cons_self))
 clear A hS hs sz A1
 go_enter Tryz.func74, Tryz.ntmps74
 go_upto_region 2 with (refine wpList_store_row rfl 36 _ _ rfl (w.heap.size + 1) zC.toArray rfl rfl 36 _ HBn.out I36.out rfl O36.out ?_)
 generalize World.setRow _ _ _ = wa0 at *
 clear HBn I36 O36
 have CW := hid (WRD.out k x _ _ _ hk K0.out)
 have hk1 : k1 ≤ l.length := by rw [ek1.out]; exact dK_le hk
 rw [← eq.out, ← ek1.out, ← exw.out] at CW
 go_upto_region 3 with (go_at_call 107; refine CW.out.mono ?_; rintro r w2 ⟨rfl, B2⟩; have K2 := hid B2; clear B2)
 have hz : (Ev.zero (kdP q 1)).cells = (Ev.zero 0).cells := by unfold kdP; simp [kdP]
 have K3 : Hid (All (rdB R (.slice (some ⟨g, 0, none⟩) l.length c) k1 xw :: blkC (w.heap.size + 1) (Ev.zero (kdP q 1)).cells 36 :: blkC w.heap.size (Ev.zero 0).cells 36 :: cs) w2) := hid (by rw [hz]; exact K2.out)
 have SET : Hid (∀ (a b : Int), (Ev.zero a).cells.set 0 (.int .i64 b) = (Ev.zero b).cells) := hid (fun _ _ => rfl)
 have GET : Hid (∀ a : Int, (Ev.zero a).cells[0]? = some (.int .i64 a)) := hid (fun _ => rfl)
 clear hz K2 CW K0 WRD
 go_wp2
 go_loopw [5] (fun iv wr => ∃ i : Nat, 1 ≤ i ∧ i ≤ 12 ∧ iv = .int .i64 (i : Int) ∧ Hid (All (rdB R (.slice (some ⟨g, 0, none⟩) l.length c) k1 xw :: blkC (w.heap.size + 1) (Ev.zero (kdP q i)).cells 36 :: blkC w.heap.size (Ev.zero 0).cells 36 :: cs) wr)) (fun iv _ => 13 - (intOf iv).toNat)
 case atStart => exact ⟨1, by omega, by omega, rfl, K3⟩
 case round =>
   obtain ⟨i, h1, h4, rfl, HK⟩ := hrel
   clear K3
   by_cases hi : i ≤ 11
   · have hi' : (i : Int) ≤ 11 := by omega
     have cS := hid (word_any (i : Int) wr)
     by_cases hq : q = wordN (i : Int)
     · have hq' : ((⟨q.toArray⟩ : ByteArray).toList == (⟨(wordN (i : Int)).toArray⟩ : ByteArray).toList) = true := by rw [ba_ne]; simpa using hq
       have hst : kdP q (i + 1) = (i : Int) := by rw [kdP, if_pos ⟨by omega, hq⟩]
       have c1 := hid (fun W (h : Below wr.heap.size wr W) => cell_in (HK.out.later h) (P := w.heap.size + 1) (t := 36) (o := 0) (List.mem_cons_of_mem _ List.mem_cons_self) (GET.out _))
       have f1 := hid (fun W (h : Below wr.heap.size wr W) => free_at ((HK.out.later h).blk (g := w.heap.size + 1) (t := 36) (List.mem_cons_of_mem _ List.mem_cons_self)) 0)
       generalize ByteArray.mk q.toArray = X at *
       generalize ByteArray.mk (wordN (i : Int)).toArray = Y at *
       go_wp2_with (go_at_call 60; refine cS.out.mono ?_; rintro r w5 ⟨rfl, B5⟩; have HL := hid B5; have d1 := c1.out _ B5; have g1 := f1.out _ B5; clear B5)
       go_roundw
       case rel => exact ⟨i + 1, by omega, by omega, by go_num, hid (by have h6 := ((HK.out.later HL.out).swap.setBlk 0 (.int .i64 (i : Int))).swap; rw [SET.out] at h6; rw [hst]; exact h6)⟩
       case measure => simp [intOf]; omega
     · have hq' : ((⟨q.toArray⟩ : ByteArray).toList == (⟨(wordN (i : Int)).toArray⟩ : ByteArray).toList) = false := by rw [ba_ne]; simpa using hq
       have hst : kdP q (i + 1) = kdP q i := by rw [kdP, if_neg (by simp [hq])]
       generalize ByteArray.mk q.toArray = X at *
       generalize ByteArray.mk (wordN (i : Int)).toArray = Y at *
       go_wp2_with (go_at_call 60; refine cS.out.mono ?_; rintro r w5 ⟨rfl, B5⟩; have HL := hid B5; clear B5)
       go_roundw
       case rel => exact ⟨i + 1, by omega, by omega, by go_num, hid (by rw [hst]; exact HK.out.later HL.out)⟩
       case measure => simp [intOf]; omega
   have i12 : i = 12 := by omega
   subst i12
   rw [HQ.out] at HK
   have c0 := cell_in HK.out (P := w.heap.size + 1) (t := 36) (o := 0) (List.mem_cons_of_mem _ List.mem_cons_self) (GET.out _)
   clear hi HQ eq SET
   go_upto_region 11 with fail
   clear c0
   have CN0 := hid (NUM.out k1 xw _ _ _ hk1 HK.out)
   go_upto_region 12 with (go_at_call 108; refine CN0.out.mono ?_; rintro r wb0 ⟨rfl, B⟩; have L0 := hid B; clear B; have cc0 := cell_in L0.out (P := w.heap.size + 1) (t := 36) (o := 1) (List.mem_cons_of_mem _ List.mem_cons_self) rfl; have ff0 := free_at (L0.out.blk (g := w.heap.size + 1) (t := 36) (List.mem_cons_of_mem _ List.mem_cons_self)) 1)
   have M0 := hid ((L0.out.swap.setBlk 1 (.int .i64 (dN l k1 xw))).swap)
   generalize World.setCell _ _ _ = wc0 at *
   clear cc0 ff0 L0 CN0 HK
   have c0 := cell_in M0.out (P := w.heap.size + 1) (t := 36) (o := 0) (List.mem_cons_of_mem _ List.mem_cons_self) (show ((Ev.zero 4).cells.set 1 (.int .i64 (dN l k1 xw)))[0]? = some (.int .i64 4) from rfl)
   obtain ⟨k2, ek2⟩ : ∃ v, Hid (v = dK l k1 xw) := ⟨_, hid rfl⟩
   obtain ⟨x2, ex2⟩ : ∃ v, Hid (v = dNX l k1 xw) := ⟨_, hid rfl⟩
   obtain ⟨C2, eC2⟩ : ∃ v, Hid (v = (Ev.zero 4).cells.set 1 (.int .i64 (dN l k1 xw))) := ⟨_, hid rfl⟩
   have hC2 : C2.length = 33 := by rw [eC2.out]; rfl
   have hk2 : k2 ≤ l.length := by rw [ek2.out]; exact LEK.out _ _ hk1
   rw [← ek2.out, ← ex2.out, ← eC2.out] at M0
   go_upto_region 23 with fail
   clear c0 GET
   have M2 := M0
   clear M0
   have hk2' := hk2
   obtain ⟨vo2, hvo2⟩ := some_at hC2 2 (by decide)
   have CN2 := hid (NUM.out k2 x2 _ _ _ hk2 M2.out)
   go_upto_region 24 with (go_at_call 108; refine CN2.out.mono ?_; rintro r wb2 ⟨rfl, B⟩; have L2 := hid B; clear B; have cc2 := cell_in L2.out (P := w.heap.size + 1) (t := 36) (o := 2) (List.mem_cons_of_mem _ List.mem_cons_self) hvo2; have ff2 := free_at (L2.out.blk (g := w.heap.size + 1) (t := 36) (List.mem_cons_of_mem _ List.mem_cons_self)) 2)
   have M3 := hid ((L2.out.swap.setBlk 2 (.int .i64 (dN l k2 x2))).swap)
   generalize World.setCell _ _ _ = wc2 at *
   clear cc2 ff2 L2 CN2 M2 hvo2 hk2'
   obtain ⟨k3, ek3⟩ : ∃ v, Hid (v = dK l k2 x2) := ⟨_, hid rfl⟩
   obtain ⟨x3, ex3⟩ : ∃ v, Hid (v = dNX l k2 x2) := ⟨_, hid rfl⟩
   obtain ⟨C3, eC3⟩ : ∃ v, Hid (v = C2.set 2 (.int .i64 (dN l k2 x2))) := ⟨_, hid rfl⟩
   have hC3 : C3.length = 33 := by rw [eC3.out, List.length_set]; exact hC2
   have hk3 : k3 ≤ l.length := by rw [ek3.out]; exact LEK.out _ _ hk2
   rw [← ek3.out, ← ex3.out, ← eC3.out] at M3
   have hk3' := hk3
   obtain ⟨vo3, hvo3⟩ := some_at hC3 3 (by decide)
   have CN3 := hid (NUM.out k3 x3 _ _ _ hk3 M3.out)
   go_upto_region 25 with (go_at_call 108; refine CN3.out.mono ?_; rintro r wb3 ⟨rfl, B⟩; have L3 := hid B; clear B; have cc3 := cell_in L3.out (P := w.heap.size + 1) (t := 36) (o := 3) (List.mem_cons_of_mem _ List.mem_cons_self) hvo3; have ff3 := free_at (L3.out.blk (g := w.heap.size + 1) (t := 36) (List.mem_cons_of_mem _ List.mem_cons_self)) 3)
   have M4 := hid ((L3.out.swap.setBlk 3 (.int .i64 (dN l k3 x3))).swap)
   generalize World.setCell _ _ _ = wc3 at *
   clear cc3 ff3 L3 CN3 M3 hvo3 hk3'
   obtain ⟨k4, ek4⟩ : ∃ v, Hid (v = dK l k3 x3) := ⟨_, hid rfl⟩
   obtain ⟨x4, ex4⟩ : ∃ v, Hid (v = dNX l k3 x3) := ⟨_, hid rfl⟩
   obtain ⟨C4, eC4⟩ : ∃ v, Hid (v = C3.set 3 (.int .i64 (dN l k3 x3))) := ⟨_, hid rfl⟩
   have hC4 : C4.length = 33 := by rw [eC4.out, List.length_set]; exact hC3
   have hk4 : k4 ≤ l.length := by rw [ek4.out]; exact LEK.out _ _ hk3
   rw [← ek4.out, ← ex4.out, ← eC4.out] at M4
   have CN4 := hid (RSR.out k4 x4 _ _ _ hk4 M4.out)
   have IO4 : Hid (∀ va vc, (Tryz.prog.info? 29).map (·.size) = some (#[.int .i64 (dR l k4 x4).c, .int .i64 (dR l k4 x4).n, .slice va (dR l k4 x4).items.length vc] : Array Value).size) := hid (fun va vc => by kernel_rfl)
   have OO4 : Hid (∀ va vc, (#[.int .i64 (dR l k4 x4).c, .int .i64 (dR l k4 x4).n, .slice va (dR l k4 x4).items.length vc] : Array Value).all (·.oneCell') = true) := hid (fun va vc => by simp [Value.oneCell'])
   go_upto_region 48 with (first
     | (go_at_call 110; refine CN4.out.mono ?_; rintro r wb4 ⟨va, vc, rfl, B⟩; have L4 := hid (B.perm (List.perm_middle (l₁ := [_, _, _])).symm); clear B; have TH4 : Hid (wb4.there (w.heap.size + 1) 19 3) := hid (fun z hz => ⟨by rw [cell_at (L4.out.blk (g := w.heap.size + 1) (vs := C4) (t := 36) (List.mem_cons_of_mem _ List.mem_cons_self)), List.getElem?_toArray, List.getElem?_eq_getElem (by omega)]; rfl, free_at (L4.out.blk (g := w.heap.size + 1) (vs := C4) (t := 36) (List.mem_cons_of_mem _ List.mem_cons_self)) _⟩))
     | (refine wpList_store_mid rfl 29 _ _ rfl (w.heap.size + 1) 19 #[.int .i64 (dR l k4 x4).c, .int .i64 (dR l k4 x4).n, .slice va (dR l k4 x4).items.length vc] rfl rfl TH4.out (IO4.out va vc) (OO4.out va vc) ?_; rw [List.toList_toArray]))
   have M5 : Hid (All (rdB R (.slice (some ⟨g, 0, none⟩) l.length c) (k4 + (dR l k4 x4).k) (flE x4 (dR l k4 x4).e) :: blkC (w.heap.size + 1) (setRes C4 19 (dR l k4 x4).c (dR l k4 x4).n (.slice va (dR l k4 x4).items.length vc)) 36 :: blkC w.heap.size (Ev.zero 0).cells 36 :: ownC 9 (.slice va (dR l k4 x4).items.length vc) (txW (dR l k4 x4).items) :: cs) (wb4.setCells (w.heap.size + 1) 19 [.int .i64 (dR l k4 x4).c, .int .i64 (dR l k4 x4).n, .slice va (dR l k4 x4).items.length vc])) := hid ((((L4.out.swap.setBlk 19 (.int .i64 (dR l k4 x4).c)).setBlk (19 + 1) (.int .i64 (dR l k4 x4).n)).setBlk (19 + 2) (.slice va (dR l k4 x4).items.length vc)).swap)
   generalize World.setCells _ _ _ _ = wc4 at *
   clear TH4 L4 CN4 M4 IO4 OO4
   obtain ⟨ov, eov⟩ : ∃ v, Hid (v = Value.slice va (dR l k4 x4).items.length vc) := ⟨_, hid rfl⟩
   rw [← eov.out] at M5
   clear eov
   obtain ⟨k5, ek5⟩ : ∃ v, Hid (v = k4 + (dR l k4 x4).k) := ⟨_, hid rfl⟩
   obtain ⟨x5, ex5⟩ : ∃ v, Hid (v = flE x4 (dR l k4 x4).e) := ⟨_, hid rfl⟩
   obtain ⟨C5, eC5⟩ : ∃ v, Hid (v = setRes C4 19 (dR l k4 x4).c (dR l k4 x4).n ov) := ⟨_, hid rfl⟩
   have hC5 : C5.length = 33 := by rw [eC5.out]; simp [setRes, hC4]
   rw [← ek5.out, ← ex5.out, ← eC5.out] at M5
   obtain ⟨CF, eCF⟩ : ∃ v, Hid (v = putL (Ev.zero 4).cells (tsK 4) (dRun (tsK 4) l k1 xw).1 [ptr 0, ptr 0, ptr 0, ov]) := ⟨_, hid rfl⟩
   have FIN : Hid (C5 = CF ∧ [ptr 0, ptr 0, ptr 0, ov].length = (dRun (tsK 4) l k1 xw).1.length ∧ (∀ W, All (rdB R (.slice (some ⟨g, 0, none⟩) l.length c) k5 x5 :: ownC 9 ov (txW (dR l k4 x4).items) :: cs) W → All (rdB R (.slice (some ⟨g, 0, none⟩) l.length c) (dRun (tsK 4) l k1 xw).2.1 (dRun (tsK 4) l k1 xw).2.2 :: (ownL (dRun (tsK 4) l k1 xw).1 [ptr 0, ptr 0, ptr 0, ov] ++ cs)) W)) := hid (by
     rw [eCF.out]
     have h := eC5.out; subst h; have h := ek5.out; subst h; have h := ex5.out; subst h
     have h := eC4.out; subst h; have h := ek4.out; subst h; have h := ex4.out; subst h
     have h := eC3.out; subst h; have h := ek3.out; subst h; have h := ex3.out; subst h
     have h := eC2.out; subst h; have h := ek2.out; subst h; have h := ex2.out; subst h
     exact ⟨rfl, rfl, fun W h => h⟩)
   have hCF : CF.length = 33 := by rw [← FIN.out.1]; exact hC5
   have MF := M5
   rw [FIN.out.1] at MF
   have I36 : Hid ((Tryz.prog.info? 36).map (·.size) = some CF.toArray.size) := hid (by rw [List.size_toArray, hCF]; kernel_rfl)
   have Z36 : Hid ((Ev.zero 0).cells.toArray.size = CF.toArray.size) := hid ((show (Ev.zero 0).cells.toArray.size = 33 from rfl).trans (by rw [List.size_toArray, hCF]))
   have O36 : Hid (CF.toArray.all (·.oneCell') = true) := hid (all_oneCell_toArray (by
     rw [eCF.out]
     have h1 := FIN.out.2.2 _ ((MF.out.swap.tail).swap.tail)
     exact putL_one (zero_one _) h1.tail))
   have HB3 := hid (MF.out.blk (g := w.heap.size + 1) (t := 36) (List.mem_cons_of_mem _ List.mem_cons_self))
   have HBg := hid (MF.out.blk (g := w.heap.size) (t := 36) (List.mem_cons_of_mem _ (List.mem_cons_of_mem _ List.mem_cons_self)))
   have K6 := hid ((MF.out.perm (List.perm_middle (l₁ := [_, _]))).setRow (vs' := CF))
   clear M5 ek2 ex2 eC2 ek3 ex3 eC3 ek4 ex4 eC4 ek5 ex5 eC5 hC5
   go_wp2_with (first | (refine wpList_load_row rfl 36 _ rfl (w.heap.size + 1) rfl 36 CF.toArray (0, 0) _ HB3.out Tryz.underlying36 rfl I36.out ?_) | (refine wpList_store_row rfl 36 _ _ rfl w.heap.size CF.toArray rfl rfl 36 _ HBg.out I36.out Z36.out O36.out ?_))
   refine ret_evD rfl rfl (K6.out.blk List.mem_cons_self) hCF rfl ⟨[ptr 0, ptr 0, ptr 0, ov], FIN.out.2.1, by rw [← eCF.out], FIN.out.2.2 _ K6.out.tail.swap.tail⟩
set_option linter.unusedVariables false
set_option maxRecDepth 1000000
set_option maxHeartbeats 12800000
theorem revent_e {R g c : Nat} {l : Ws} {k : Nat} {x : Int} {cs : List Comp} {w : World} (hk : k ≤ l.length) (hl16 : l.length * 16 ≤ 140737488355328) (hs : ∀ y ∈ l, y.length ≤ 140737488355328) (hS : ∀ W, All cs W → Rt W (.slice (some ⟨g, 0, none⟩) l.length c) l) (hq : kdP (dW l k x) 12 = 5) (A : All (rdB R (.slice (some ⟨g, 0, none⟩) l.length c) k x :: cs) w) :
   Calls Tryz.prog 74 #[.pointer (some ⟨R, 0, none⟩)] w (DEPost 5 R (.slice (some ⟨g, 0, none⟩) l.length c) l (dK l k x) (dX l k x) cs) := by
 have hl : l.length ≤ 140737488355328 := by omega
 obtain ⟨q, eq⟩ : ∃ v, Hid (v = dW l k x) := ⟨_, hid rfl⟩
 obtain ⟨k1, ek1⟩ : ∃ v, Hid (v = dK l k x) := ⟨_, hid rfl⟩
 obtain ⟨xw, exw⟩ : ∃ v, Hid (v = dX l k x) := ⟨_, hid rfl⟩
 rw [← eq.out] at hq
 have HQ := hid hq
 clear hq
 rw [← ek1.out, ← exw.out]
 have WRD : Hid (∀ (k : Nat) (x : Int) (c1 c2 : Comp) W, k ≤ l.length → All (rdB R (.slice (some ⟨g, 0, none⟩) l.length c) k x :: c1 :: c2 :: cs) W → Calls Tryz.prog 107 #[.pointer (some ⟨R, 0, none⟩)] W fun r w' => r = .returned (.string ⟨(dW l k x).toArray⟩) ∧ All (rdB R (.slice (some ⟨g, 0, none⟩) l.length c) (dK l k x) (dX l k x) :: c1 :: c2 :: cs) w') := hid (fun k x c1 c2 W hk h => rword_any hk hl (fun V hV => hS V hV.tail.tail) h)
 have NUM : Hid (∀ (k : Nat) (x : Int) (c1 c2 : Comp) W, k ≤ l.length → All (rdB R (.slice (some ⟨g, 0, none⟩) l.length c) k x :: c1 :: c2 :: cs) W → Calls Tryz.prog 108 #[.pointer (some ⟨R, 0, none⟩)] W fun r w' => r = .returned (.int .i64 (dN l k x)) ∧ All (rdB R (.slice (some ⟨g, 0, none⟩) l.length c) (dK l k x) (dNX l k x) :: c1 :: c2 :: cs) w') := hid (fun k x c1 c2 W hk h => rnumber_any hk hl hs (fun V hV => hS V hV.tail.tail) h)
 have RSR : Hid (∀ (k : Nat) (x : Int) (c1 c2 : Comp) W, k ≤ l.length → All (rdB R (.slice (some ⟨g, 0, none⟩) l.length c) k x :: c1 :: c2 :: cs) W → Calls Tryz.prog 110 #[.pointer (some ⟨R, 0, none⟩)] W fun e w' => ∃ va vc, e = .returned (.agg #[.int .i64 (dR l k x).c, .int .i64 (dR l k x).n, .slice va (dR l k x).items.length vc]) ∧ All (ownC 9 (.slice va (dR l k x).items.length vc) (txW (dR l k x).items) :: rdB R (.slice (some ⟨g, 0, none⟩) l.length c) (k + (dR l k x).k) (flE x (dR l k x).e) :: c1 :: c2 :: cs) w') := hid (fun k x c1 c2 W hk h => rres_doc hk hl16 hs (fun V hV => hS V hV.tail.tail) h)
 have LEK : Hid (∀ (k : Nat) (x : Int), k ≤ l.length → dK l k x ≤ l.length) := hid (fun k x hk => dK_le hk)
 have A1 := hid (((A.addBlk zC 36).addBlk zC 36).perm (List.perm_middle (l₁ := [_, _])))
 have sz : ∀ (V : World) (o : Obj), (V.alloc o).heap.size = V.heap.size + 1 := fun V o => by simp
 rw [sz] at A1
 have I36 : Hid ((Tryz.prog.info? 36).map (·.size) = some (zC.toArray : Array Value).size) := hid (by kernel_rfl)
 have O36 : Hid ((zC.toArray : Array Value).all (·.oneCell') = true) := hid (by kernel_rfl)
 have K0 := hid ((A1.out.swap.setRow (vs' := zC)).swap)
 have HBn := hid (A1.out.blk (g := w.heap.size + 1) (t := 36) (List.mem_cons_of_mem _ List.mem_cons_self))
 clear A hS hs sz A1
 go_enter Tryz.func74, Tryz.ntmps74
 go_upto_region 2 with (refine wpList_store_row rfl 36 _ _ rfl (w.heap.size + 1) zC.toArray rfl rfl 36 _ HBn.out I36.out rfl O36.out ?_)
 generalize World.setRow _ _ _ = wa0 at *
 clear HBn I36 O36
 have CW := hid (WRD.out k x _ _ _ hk K0.out)
 have hk1 : k1 ≤ l.length := by rw [ek1.out]; exact dK_le hk
 rw [← eq.out, ← ek1.out, ← exw.out] at CW
 go_upto_region 3 with (go_at_call 107; refine CW.out.mono ?_; rintro r w2 ⟨rfl, B2⟩; have K2 := hid B2; clear B2)
 have hz : (Ev.zero (kdP q 1)).cells = (Ev.zero 0).cells := by unfold kdP; simp [kdP]
 have K3 : Hid (All (rdB R (.slice (some ⟨g, 0, none⟩) l.length c) k1 xw :: blkC (w.heap.size + 1) (Ev.zero (kdP q 1)).cells 36 :: blkC w.heap.size (Ev.zero 0).cells 36 :: cs) w2) := hid (by rw [hz]; exact K2.out)
 have SET : Hid (∀ (a b : Int), (Ev.zero a).cells.set 0 (.int .i64 b) = (Ev.zero b).cells) := hid (fun _ _ => rfl)
 have GET : Hid (∀ a : Int, (Ev.zero a).cells[0]? = some (.int .i64 a)) := hid (fun _ => rfl)
 clear hz K2 CW K0 WRD
 go_wp2
 go_loopw [5] (fun iv wr => ∃ i : Nat, 1 ≤ i ∧ i ≤ 12 ∧ iv = .int .i64 (i : Int) ∧ Hid (All (rdB R (.slice (some ⟨g, 0, none⟩) l.length c) k1 xw :: blkC (w.heap.size + 1) (Ev.zero (kdP q i)).cells 36 :: blkC w.heap.size (Ev.zero 0).cells 36 :: cs) wr)) (fun iv _ => 13 - (intOf iv).toNat)
 case atStart => exact ⟨1, by omega, by omega, rfl, K3⟩
 case round =>
   obtain ⟨i, h1, h4, rfl, HK⟩ := hrel
   clear K3
   by_cases hi : i ≤ 11
   · have hi' : (i : Int) ≤ 11 := by omega
     have cS := hid (word_any (i : Int) wr)
     by_cases hq : q = wordN (i : Int)
     · have hq' : ((⟨q.toArray⟩ : ByteArray).toList == (⟨(wordN (i : Int)).toArray⟩ : ByteArray).toList) = true := by rw [ba_ne]; simpa using hq
       have hst : kdP q (i + 1) = (i : Int) := by rw [kdP, if_pos ⟨by omega, hq⟩]
       have c1 := hid (fun W (h : Below wr.heap.size wr W) => cell_in (HK.out.later h) (P := w.heap.size + 1) (t := 36) (o := 0) (List.mem_cons_of_mem _ List.mem_cons_self) (GET.out _))
       have f1 := hid (fun W (h : Below wr.heap.size wr W) => free_at ((HK.out.later h).blk (g := w.heap.size + 1) (t := 36) (List.mem_cons_of_mem _ List.mem_cons_self)) 0)
       generalize ByteArray.mk q.toArray = X at *
       generalize ByteArray.mk (wordN (i : Int)).toArray = Y at *
       go_wp2_with (go_at_call 60; refine cS.out.mono ?_; rintro r w5 ⟨rfl, B5⟩; have HL := hid B5; have d1 := c1.out _ B5; have g1 := f1.out _ B5; clear B5)
       go_roundw
       case rel => exact ⟨i + 1, by omega, by omega, by go_num, hid (by have h6 := ((HK.out.later HL.out).swap.setBlk 0 (.int .i64 (i : Int))).swap; rw [SET.out] at h6; rw [hst]; exact h6)⟩
       case measure => simp [intOf]; omega
     · have hq' : ((⟨q.toArray⟩ : ByteArray).toList == (⟨(wordN (i : Int)).toArray⟩ : ByteArray).toList) = false := by rw [ba_ne]; simpa using hq
       have hst : kdP q (i + 1) = kdP q i := by rw [kdP, if_neg (by simp [hq])]
       generalize ByteArray.mk q.toArray = X at *
       generalize ByteArray.mk (wordN (i : Int)).toArray = Y at *
       go_wp2_with (go_at_call 60; refine cS.out.mono ?_; rintro r w5 ⟨rfl, B5⟩; have HL := hid B5; clear B5)
       go_roundw
       case rel => exact ⟨i + 1, by omega, by omega, by go_num, hid (by rw [hst]; exact HK.out.later HL.out)⟩
       case measure => simp [intOf]; omega
   have i12 : i = 12 := by omega
   subst i12
   rw [HQ.out] at HK
   have c0 := cell_in HK.out (P := w.heap.size + 1) (t := 36) (o := 0) (List.mem_cons_of_mem _ List.mem_cons_self) (GET.out _)
   clear hi HQ eq SET
   go_upto_region 11 with fail
   clear c0
   have CN0 := hid (NUM.out k1 xw _ _ _ hk1 HK.out)
   go_upto_region 12 with (go_at_call 108; refine CN0.out.mono ?_; rintro r wb0 ⟨rfl, B⟩; have L0 := hid B; clear B; have cc0 := cell_in L0.out (P := w.heap.size + 1) (t := 36) (o := 1) (List.mem_cons_of_mem _ List.mem_cons_self) rfl; have ff0 := free_at (L0.out.blk (g := w.heap.size + 1) (t := 36) (List.mem_cons_of_mem _ List.mem_cons_self)) 1)
   have M0 := hid ((L0.out.swap.setBlk 1 (.int .i64 (dN l k1 xw))).swap)
   generalize World.setCell _ _ _ = wc0 at *
   clear cc0 ff0 L0 CN0 HK
   have c0 := cell_in M0.out (P := w.heap.size + 1) (t := 36) (o := 0) (List.mem_cons_of_mem _ List.mem_cons_self) (show ((Ev.zero 5).cells.set 1 (.int .i64 (dN l k1 xw)))[0]? = some (.int .i64 5) from rfl)
   obtain ⟨k2, ek2⟩ : ∃ v, Hid (v = dK l k1 xw) := ⟨_, hid rfl⟩
   obtain ⟨x2, ex2⟩ : ∃ v, Hid (v = dNX l k1 xw) := ⟨_, hid rfl⟩
   obtain ⟨C2, eC2⟩ : ∃ v, Hid (v = (Ev.zero 5).cells.set 1 (.int .i64 (dN l k1 xw))) := ⟨_, hid rfl⟩
   have hC2 : C2.length = 33 := by rw [eC2.out]; rfl
   have hk2 : k2 ≤ l.length := by rw [ek2.out]; exact LEK.out _ _ hk1
   rw [← ek2.out, ← ex2.out, ← eC2.out] at M0
   go_upto_region 27 with fail
   clear c0 GET
   have M2 := M0
   clear M0
   have hk2' := hk2
   obtain ⟨vo2, hvo2⟩ := some_at hC2 2 (by decide)
   have CN2 := hid (NUM.out k2 x2 _ _ _ hk2 M2.out)
   go_upto_region 28 with (go_at_call 108; refine CN2.out.mono ?_; rintro r wb2 ⟨rfl, B⟩; have L2 := hid B; clear B; have cc2 := cell_in L2.out (P := w.heap.size + 1) (t := 36) (o := 2) (List.mem_cons_of_mem _ List.mem_cons_self) hvo2; have ff2 := free_at (L2.out.blk (g := w.heap.size + 1) (t := 36) (List.mem_cons_of_mem _ List.mem_cons_self)) 2)
   have M3 := hid ((L2.out.swap.setBlk 2 (.int .i64 (dN l k2 x2))).swap)
   generalize World.setCell _ _ _ = wc2 at *
   clear cc2 ff2 L2 CN2 M2 hvo2 hk2'
   obtain ⟨k3, ek3⟩ : ∃ v, Hid (v = dK l k2 x2) := ⟨_, hid rfl⟩
   obtain ⟨x3, ex3⟩ : ∃ v, Hid (v = dNX l k2 x2) := ⟨_, hid rfl⟩
   obtain ⟨C3, eC3⟩ : ∃ v, Hid (v = C2.set 2 (.int .i64 (dN l k2 x2))) := ⟨_, hid rfl⟩
   have hC3 : C3.length = 33 := by rw [eC3.out, List.length_set]; exact hC2
   have hk3 : k3 ≤ l.length := by rw [ek3.out]; exact LEK.out _ _ hk2
   rw [← ek3.out, ← ex3.out, ← eC3.out] at M3
   have hk3' := hk3
   obtain ⟨vo3, hvo3⟩ := some_at hC3 3 (by decide)
   have CN3 := hid (NUM.out k3 x3 _ _ _ hk3 M3.out)
   go_upto_region 29 with (go_at_call 108; refine CN3.out.mono ?_; rintro r wb3 ⟨rfl, B⟩; have L3 := hid B; clear B; have cc3 := cell_in L3.out (P := w.heap.size + 1) (t := 36) (o := 3) (List.mem_cons_of_mem _ List.mem_cons_self) hvo3; have ff3 := free_at (L3.out.blk (g := w.heap.size + 1) (t := 36) (List.mem_cons_of_mem _ List.mem_cons_self)) 3)
   have M4 := hid ((L3.out.swap.setBlk 3 (.int .i64 (dN l k3 x3))).swap)
   generalize World.setCell _ _ _ = wc3 at *
   clear cc3 ff3 L3 CN3 M3 hvo3 hk3'
   obtain ⟨k4, ek4⟩ : ∃ v, Hid (v = dK l k3 x3) := ⟨_, hid rfl⟩
   obtain ⟨x4, ex4⟩ : ∃ v, Hid (v = dNX l k3 x3) := ⟨_, hid rfl⟩
   obtain ⟨C4, eC4⟩ : ∃ v, Hid (v = C3.set 3 (.int .i64 (dN l k3 x3))) := ⟨_, hid rfl⟩
   have hC4 : C4.length = 33 := by rw [eC4.out, List.length_set]; exact hC3
   have hk4 : k4 ≤ l.length := by rw [ek4.out]; exact LEK.out _ _ hk3
   rw [← ek4.out, ← ex4.out, ← eC4.out] at M4
   have hk4' := hk4
   obtain ⟨vo4, hvo4⟩ := some_at hC4 4 (by decide)
   have CN4 := hid (NUM.out k4 x4 _ _ _ hk4 M4.out)
   go_upto_region 30 with (go_at_call 108; refine CN4.out.mono ?_; rintro r wb4 ⟨rfl, B⟩; have L4 := hid B; clear B; have cc4 := cell_in L4.out (P := w.heap.size + 1) (t := 36) (o := 4) (List.mem_cons_of_mem _ List.mem_cons_self) hvo4; have ff4 := free_at (L4.out.blk (g := w.heap.size + 1) (t := 36) (List.mem_cons_of_mem _ List.mem_cons_self)) 4)
   have M5 := hid ((L4.out.swap.setBlk 4 (.int .i64 (dN l k4 x4))).swap)
   generalize World.setCell _ _ _ = wc4 at *
   clear cc4 ff4 L4 CN4 M4 hvo4 hk4'
   obtain ⟨k5, ek5⟩ : ∃ v, Hid (v = dK l k4 x4) := ⟨_, hid rfl⟩
   obtain ⟨x5, ex5⟩ : ∃ v, Hid (v = dNX l k4 x4) := ⟨_, hid rfl⟩
   obtain ⟨C5, eC5⟩ : ∃ v, Hid (v = C4.set 4 (.int .i64 (dN l k4 x4))) := ⟨_, hid rfl⟩
   have hC5 : C5.length = 33 := by rw [eC5.out, List.length_set]; exact hC4
   have hk5 : k5 ≤ l.length := by rw [ek5.out]; exact LEK.out _ _ hk4
   rw [← ek5.out, ← ex5.out, ← eC5.out] at M5
   have CN5 := hid (RSR.out k5 x5 _ _ _ hk5 M5.out)
   have IO5 : Hid (∀ va vc, (Tryz.prog.info? 29).map (·.size) = some (#[.int .i64 (dR l k5 x5).c, .int .i64 (dR l k5 x5).n, .slice va (dR l k5 x5).items.length vc] : Array Value).size) := hid (fun va vc => by kernel_rfl)
   have OO5 : Hid (∀ va vc, (#[.int .i64 (dR l k5 x5).c, .int .i64 (dR l k5 x5).n, .slice va (dR l k5 x5).items.length vc] : Array Value).all (·.oneCell') = true) := hid (fun va vc => by simp [Value.oneCell'])
   go_upto_region 48 with (first
     | (go_at_call 110; refine CN5.out.mono ?_; rintro r wb5 ⟨va, vc, rfl, B⟩; have L5 := hid (B.perm (List.perm_middle (l₁ := [_, _, _])).symm); clear B; have TH5 : Hid (wb5.there (w.heap.size + 1) 19 3) := hid (fun z hz => ⟨by rw [cell_at (L5.out.blk (g := w.heap.size + 1) (vs := C5) (t := 36) (List.mem_cons_of_mem _ List.mem_cons_self)), List.getElem?_toArray, List.getElem?_eq_getElem (by omega)]; rfl, free_at (L5.out.blk (g := w.heap.size + 1) (vs := C5) (t := 36) (List.mem_cons_of_mem _ List.mem_cons_self)) _⟩))
     | (refine wpList_store_mid rfl 29 _ _ rfl (w.heap.size + 1) 19 #[.int .i64 (dR l k5 x5).c, .int .i64 (dR l k5 x5).n, .slice va (dR l k5 x5).items.length vc] rfl rfl TH5.out (IO5.out va vc) (OO5.out va vc) ?_; rw [List.toList_toArray]))
   have M6 : Hid (All (rdB R (.slice (some ⟨g, 0, none⟩) l.length c) (k5 + (dR l k5 x5).k) (flE x5 (dR l k5 x5).e) :: blkC (w.heap.size + 1) (setRes C5 19 (dR l k5 x5).c (dR l k5 x5).n (.slice va (dR l k5 x5).items.length vc)) 36 :: blkC w.heap.size (Ev.zero 0).cells 36 :: ownC 9 (.slice va (dR l k5 x5).items.length vc) (txW (dR l k5 x5).items) :: cs) (wb5.setCells (w.heap.size + 1) 19 [.int .i64 (dR l k5 x5).c, .int .i64 (dR l k5 x5).n, .slice va (dR l k5 x5).items.length vc])) := hid ((((L5.out.swap.setBlk 19 (.int .i64 (dR l k5 x5).c)).setBlk (19 + 1) (.int .i64 (dR l k5 x5).n)).setBlk (19 + 2) (.slice va (dR l k5 x5).items.length vc)).swap)
   generalize World.setCells _ _ _ _ = wc5 at *
   clear TH5 L5 CN5 M5 IO5 OO5
   obtain ⟨ov, eov⟩ : ∃ v, Hid (v = Value.slice va (dR l k5 x5).items.length vc) := ⟨_, hid rfl⟩
   rw [← eov.out] at M6
   clear eov
   obtain ⟨k6, ek6⟩ : ∃ v, Hid (v = k5 + (dR l k5 x5).k) := ⟨_, hid rfl⟩
   obtain ⟨x6, ex6⟩ : ∃ v, Hid (v = flE x5 (dR l k5 x5).e) := ⟨_, hid rfl⟩
   obtain ⟨C6, eC6⟩ : ∃ v, Hid (v = setRes C5 19 (dR l k5 x5).c (dR l k5 x5).n ov) := ⟨_, hid rfl⟩
   have hC6 : C6.length = 33 := by rw [eC6.out]; simp [setRes, hC5]
   rw [← ek6.out, ← ex6.out, ← eC6.out] at M6
   obtain ⟨CF, eCF⟩ : ∃ v, Hid (v = putL (Ev.zero 5).cells (tsK 5) (dRun (tsK 5) l k1 xw).1 [ptr 0, ptr 0, ptr 0, ptr 0, ov]) := ⟨_, hid rfl⟩
   have FIN : Hid (C6 = CF ∧ [ptr 0, ptr 0, ptr 0, ptr 0, ov].length = (dRun (tsK 5) l k1 xw).1.length ∧ (∀ W, All (rdB R (.slice (some ⟨g, 0, none⟩) l.length c) k6 x6 :: ownC 9 ov (txW (dR l k5 x5).items) :: cs) W → All (rdB R (.slice (some ⟨g, 0, none⟩) l.length c) (dRun (tsK 5) l k1 xw).2.1 (dRun (tsK 5) l k1 xw).2.2 :: (ownL (dRun (tsK 5) l k1 xw).1 [ptr 0, ptr 0, ptr 0, ptr 0, ov] ++ cs)) W)) := hid (by
     rw [eCF.out]
     have h := eC6.out; subst h; have h := ek6.out; subst h; have h := ex6.out; subst h
     have h := eC5.out; subst h; have h := ek5.out; subst h; have h := ex5.out; subst h
     have h := eC4.out; subst h; have h := ek4.out; subst h; have h := ex4.out; subst h
     have h := eC3.out; subst h; have h := ek3.out; subst h; have h := ex3.out; subst h
     have h := eC2.out; subst h; have h := ek2.out; subst h; have h := ex2.out; subst h
     exact ⟨rfl, rfl, fun W h => h⟩)
   have hCF : CF.length = 33 := by rw [← FIN.out.1]; exact hC6
   have MF := M6
   rw [FIN.out.1] at MF
   have I36 : Hid ((Tryz.prog.info? 36).map (·.size) = some CF.toArray.size) := hid (by rw [List.size_toArray, hCF]; kernel_rfl)
   have Z36 : Hid ((Ev.zero 0).cells.toArray.size = CF.toArray.size) := hid ((show (Ev.zero 0).cells.toArray.size = 33 from rfl).trans (by rw [List.size_toArray, hCF]))
   have O36 : Hid (CF.toArray.all (·.oneCell') = true) := hid (all_oneCell_toArray (by
     rw [eCF.out]
     have h1 := FIN.out.2.2 _ ((MF.out.swap.tail).swap.tail)
     exact putL_one (zero_one _) h1.tail))
   have HB3 := hid (MF.out.blk (g := w.heap.size + 1) (t := 36) (List.mem_cons_of_mem _ List.mem_cons_self))
   have HBg := hid (MF.out.blk (g := w.heap.size) (t := 36) (List.mem_cons_of_mem _ (List.mem_cons_of_mem _ List.mem_cons_self)))
   have K6 := hid ((MF.out.perm (List.perm_middle (l₁ := [_, _]))).setRow (vs' := CF))
   clear M6 ek2 ex2 eC2 ek3 ex3 eC3 ek4 ex4 eC4 ek5 ex5 eC5 ek6 ex6 eC6 hC6
   go_wp2_with (first | (refine wpList_load_row rfl 36 _ rfl (w.heap.size + 1) rfl 36 CF.toArray (0, 0) _ HB3.out Tryz.underlying36 rfl I36.out ?_) | (refine wpList_store_row rfl 36 _ _ rfl w.heap.size CF.toArray rfl rfl 36 _ HBg.out I36.out Z36.out O36.out ?_))
   refine ret_evD rfl rfl (K6.out.blk List.mem_cons_self) hCF rfl ⟨[ptr 0, ptr 0, ptr 0, ptr 0, ov], FIN.out.2.1, by rw [← eCF.out], FIN.out.2.2 _ K6.out.tail.swap.tail⟩
end Go.Proofs.YtfeppannfcbakaaGreatDoor

import Derived.Test.YtfeppannfcbakaaGreatDoorJ13
import Derived.Test.YtfeppannfcbakaaGreatDoorJ14
import Derived.Test.YtfeppannfcbakaaGreatDoorJ15
import Derived.Test.YtfeppannfcbakaaGreatDoorJ9
import Derived.Test.YtfeppannfcbakaaGreatDoorJ12
import Derived.Deep.QuietTactic
import Derived.BigQuiet
import Derived.Laws.Rows
import Derived.Deep.MidRow
import Derived.Deep.RegionHeld3
import Derived.Deep.DeepCutAuto
namespace Go.Proofs.YtfeppannfcbakaaGreatDoor
open Go.RowKit
set_option linter.unusedVariables false
set_option maxRecDepth 1000000
set_option maxHeartbeats 12800000
theorem revent_i {R g c : Nat} {l : Ws} {k : Nat} {x : Int} {cs : List Comp} {w : World} (hk : k ≤ l.length) (hl16 : l.length * 16 ≤ 140737488355328) (hs : ∀ y ∈ l, y.length ≤ 140737488355328) (hS : ∀ W, All cs W → Rt W (.slice (some ⟨g, 0, none⟩) l.length c) l) (hq : kdP (dW l k x) 12 = 9) (A : All (rdB R (.slice (some ⟨g, 0, none⟩) l.length c) k x :: cs) w) :
   Calls Tryz.prog 74 #[.pointer (some ⟨R, 0, none⟩)] w (DEPost 9 R (.slice (some ⟨g, 0, none⟩) l.length c) l (dK l k x) (dX l k x) cs) := by
 have hl : l.length ≤ 140737488355328 := by omega
 obtain ⟨q, eq⟩ : ∃ v, Hid (v = dW l k x) := ⟨_, hid rfl⟩
 obtain ⟨k1, ek1⟩ : ∃ v, Hid (v = dK l k x) := ⟨_, hid rfl⟩
 obtain ⟨xw, exw⟩ : ∃ v, Hid (v = dX l k x) := ⟨_, hid rfl⟩
 rw [← eq.out] at hq
 have HQ := hid hq
 clear hq
 rw [← ek1.out, ← exw.out]
 have WRD : Hid (∀ (k : Nat) (x : Int) (c1 c2 : Comp) W, k ≤ l.length → All (rdB R (.slice (some ⟨g, 0, none⟩) l.length c) k x :: c1 :: c2 :: cs) W → Calls Tryz.prog 107 #[.pointer (some ⟨R, 0, none⟩)] W fun r w' => r = .returned (.string ⟨(dW l k x).toArray⟩) ∧ All (rdB R (.slice (some ⟨g, 0, none⟩) l.length c) (dK l k x) (dX l k x) :: c1 :: c2 :: cs) w') := hid (fun k x c1 c2 W hk h => rword_any hk hl (fun V hV => hS V hV.tail.tail) h)
 have NUM : Hid (∀ (k : Nat) (x : Int) (c1 c2 : Comp) W, k ≤ l.length → All (rdB R (.slice (some ⟨g, 0, none⟩) l.length c) k x :: c1 :: c2 :: cs) W → Calls Tryz.prog 108 #[.pointer (some ⟨R, 0, none⟩)] W fun r w' => r = .returned (.int .i64 (dN l k x)) ∧ All (rdB R (.slice (some ⟨g, 0, none⟩) l.length c) (dK l k x) (dNX l k x) :: c1 :: c2 :: cs) w') := hid (fun k x c1 c2 W hk h => rnumber_any hk hl hs (fun V hV => hS V hV.tail.tail) h)
 have LEK : Hid (∀ (k : Nat) (x : Int), k ≤ l.length → dK l k x ≤ l.length) := hid (fun k x hk => dK_le hk)
 have A1 := hid (((A.addBlk zC 36).addBlk zC 36).perm (List.perm_middle (l₁ := [_, _])))
 have sz : ∀ (V : World) (o : Obj), (V.alloc o).heap.size = V.heap.size + 1 := fun V o => by simp
 rw [sz] at A1
 have I36 : Hid ((Tryz.prog.info? 36).map (·.size) = some (zC.toArray : Array Value).size) := hid (by kernel_rfl)
 have O36 : Hid ((zC.toArray : Array Value).all (·.oneCell') = true) := hid (by kernel_rfl)
 have K0 := hid ((A1.out.swap.setRow (vs' := zC)).swap)
 have HBn := hid (A1.out.blk (g := w.heap.size + 1) (t := 36) (List.mem_cons_of_mem _ List.mem_cons_self))
 clear A hS hs sz A1
 go_enter Tryz.func74, Tryz.ntmps74
 go_upto_region 2 with (refine wpList_store_row rfl 36 _ _ rfl (w.heap.size + 1) zC.toArray rfl rfl 36 _ HBn.out I36.out rfl O36.out ?_)
 generalize World.setRow _ _ _ = wa0 at *
 clear HBn I36 O36
 have CW := hid (WRD.out k x _ _ _ hk K0.out)
 have hk1 : k1 ≤ l.length := by rw [ek1.out]; exact dK_le hk
 rw [← eq.out, ← ek1.out, ← exw.out] at CW
 go_upto_region 3 with (go_at_call 107; refine CW.out.mono ?_; rintro r w2 ⟨rfl, B2⟩; have K2 := hid B2; clear B2)
 have hz : (Ev.zero (kdP q 1)).cells = (Ev.zero 0).cells := by unfold kdP; simp [kdP]
 have K3 : Hid (All (rdB R (.slice (some ⟨g, 0, none⟩) l.length c) k1 xw :: blkC (w.heap.size + 1) (Ev.zero (kdP q 1)).cells 36 :: blkC w.heap.size (Ev.zero 0).cells 36 :: cs) w2) := hid (by rw [hz]; exact K2.out)
 have SET : Hid (∀ (a b : Int), (Ev.zero a).cells.set 0 (.int .i64 b) = (Ev.zero b).cells) := hid (fun _ _ => rfl)
 have GET : Hid (∀ a : Int, (Ev.zero a).cells[0]? = some (.int .i64 a)) := hid (fun _ => rfl)
 clear hz K2 CW K0 WRD
 go_wp2
 go_loopw [5] (fun iv wr => ∃ i : Nat, 1 ≤ i ∧ i ≤ 12 ∧ iv = .int .i64 (i : Int) ∧ Hid (All (rdB R (.slice (some ⟨g, 0, none⟩) l.length c) k1 xw :: blkC (w.heap.size + 1) (Ev.zero (kdP q i)).cells 36 :: blkC w.heap.size (Ev.zero 0).cells 36 :: cs) wr)) (fun iv _ => 13 - (intOf iv).toNat)
 case atStart => exact ⟨1, by omega, by omega, rfl, K3⟩
 case round =>
   obtain ⟨i, h1, h4, rfl, HK⟩ := hrel
   clear K3
   by_cases hi : i ≤ 11
   · have hi' : (i : Int) ≤ 11 := by omega
     have cS := hid (word_any (i : Int) wr)
     by_cases hq : q = wordN (i : Int)
     · have hq' : ((⟨q.toArray⟩ : ByteArray).toList == (⟨(wordN (i : Int)).toArray⟩ : ByteArray).toList) = true := by rw [ba_ne]; simpa using hq
       have hst : kdP q (i + 1) = (i : Int) := by rw [kdP, if_pos ⟨by omega, hq⟩]
       have c1 := hid (fun W (h : Below wr.heap.size wr W) => cell_in (HK.out.later h) (P := w.heap.size + 1) (t := 36) (o := 0) (List.mem_cons_of_mem _ List.mem_cons_self) (GET.out _))
       have f1 := hid (fun W (h : Below wr.heap.size wr W) => free_at ((HK.out.later h).blk (g := w.heap.size + 1) (t := 36) (List.mem_cons_of_mem _ List.mem_cons_self)) 0)
       generalize ByteArray.mk q.toArray = X at *
       generalize ByteArray.mk (wordN (i : Int)).toArray = Y at *
       go_wp2_with (go_at_call 60; refine cS.out.mono ?_; rintro r w5 ⟨rfl, B5⟩; have HL := hid B5; have d1 := c1.out _ B5; have g1 := f1.out _ B5; clear B5)
       go_roundw
       case rel => exact ⟨i + 1, by omega, by omega, by go_num, hid (by have h6 := ((HK.out.later HL.out).swap.setBlk 0 (.int .i64 (i : Int))).swap; rw [SET.out] at h6; rw [hst]; exact h6)⟩
       case measure => simp [intOf]; omega
     · have hq' : ((⟨q.toArray⟩ : ByteArray).toList == (⟨(wordN (i : Int)).toArray⟩ : ByteArray).toList) = false := by rw [ba_ne]; simpa using hq
       have hst : kdP q (i + 1) = kdP q i := by rw [kdP, if_neg (by simp [hq])]
       generalize ByteArray.mk q.toArray = X at *
       generalize ByteArray.mk (wordN (i : Int)).toArray = Y at *
       go_wp2_with (go_at_call 60; refine cS.out.mono ?_; rintro r w5 ⟨rfl, B5⟩; have HL := hid B5; clear B5)
       go_roundw
       case rel => exact ⟨i + 1, by omega, by omega, by go_num, hid (by rw [hst]; exact HK.out.later HL.out)⟩
       case measure => simp [intOf]; omega
   have i12 : i = 12 := by omega
   subst i12
   rw [HQ.out] at HK
   have c0 := cell_in HK.out (P := w.heap.size + 1) (t := 36) (o := 0) (List.mem_cons_of_mem _ List.mem_cons_self) (GET.out _)
   clear hi HQ eq SET
   go_upto_region 11 with fail
   clear c0
   have CN0 := hid (NUM.out k1 xw _ _ _ hk1 HK.out)
   go_upto_region 12 with (go_at_call 108; refine CN0.out.mono ?_; rintro r wb0 ⟨rfl, B⟩; have L0 := hid B; clear B; have cc0 := cell_in L0.out (P := w.heap.size + 1) (t := 36) (o := 1) (List.mem_cons_of_mem _ List.mem_cons_self) rfl; have ff0 := free_at (L0.out.blk (g := w.heap.size + 1) (t := 36) (List.mem_cons_of_mem _ List.mem_cons_self)) 1)
   have M0 := hid ((L0.out.swap.setBlk 1 (.int .i64 (dN l k1 xw))).swap)
   generalize World.setCell _ _ _ = wc0 at *
   clear cc0 ff0 L0 CN0 HK
   have c0 := cell_in M0.out (P := w.heap.size + 1) (t := 36) (o := 0) (List.mem_cons_of_mem _ List.mem_cons_self) (show ((Ev.zero 9).cells.set 1 (.int .i64 (dN l k1 xw)))[0]? = some (.int .i64 9) from rfl)
   obtain ⟨k2, ek2⟩ : ∃ v, Hid (v = dK l k1 xw) := ⟨_, hid rfl⟩
   obtain ⟨x2, ex2⟩ : ∃ v, Hid (v = dNX l k1 xw) := ⟨_, hid rfl⟩
   obtain ⟨C2, eC2⟩ : ∃ v, Hid (v = (Ev.zero 9).cells.set 1 (.int .i64 (dN l k1 xw))) := ⟨_, hid rfl⟩
   have hC2 : C2.length = 33 := by rw [eC2.out]; rfl
   have hk2 : k2 ≤ l.length := by rw [ek2.out]; exact LEK.out _ _ hk1
   rw [← ek2.out, ← ex2.out, ← eC2.out] at M0
   go_upto_region 48 with fail
   clear c0 GET
   have M2 := M0
   clear M0
   obtain ⟨CF, eCF⟩ : ∃ v, Hid (v = putL (Ev.zero 9).cells (tsK 9) (dRun (tsK 9) l k1 xw).1 [ptr 0]) := ⟨_, hid rfl⟩
   have FIN : Hid (C2 = CF ∧ [ptr 0].length = (dRun (tsK 9) l k1 xw).1.length ∧ (∀ W, All (rdB R (.slice (some ⟨g, 0, none⟩) l.length c) k2 x2 ::  cs) W → All (rdB R (.slice (some ⟨g, 0, none⟩) l.length c) (dRun (tsK 9) l k1 xw).2.1 (dRun (tsK 9) l k1 xw).2.2 :: (ownL (dRun (tsK 9) l k1 xw).1 [ptr 0] ++ cs)) W)) := hid (by
     rw [eCF.out]
     have h := eC2.out; subst h; have h := ek2.out; subst h; have h := ex2.out; subst h
     exact ⟨rfl, rfl, fun W h => h⟩)
   have hCF : CF.length = 33 := by rw [← FIN.out.1]; exact hC2
   have MF := M2
   rw [FIN.out.1] at MF
   have I36 : Hid ((Tryz.prog.info? 36).map (·.size) = some CF.toArray.size) := hid (by rw [List.size_toArray, hCF]; kernel_rfl)
   have Z36 : Hid ((Ev.zero 0).cells.toArray.size = CF.toArray.size) := hid ((show (Ev.zero 0).cells.toArray.size = 33 from rfl).trans (by rw [List.size_toArray, hCF]))
   have O36 : Hid (CF.toArray.all (·.oneCell') = true) := hid (all_oneCell_toArray (by
     rw [eCF.out]
     have h1 := FIN.out.2.2 _ ((MF.out.swap.tail).swap.tail)
     exact putL_one (zero_one _) h1.tail))
   have HB3 := hid (MF.out.blk (g := w.heap.size + 1) (t := 36) (List.mem_cons_of_mem _ List.mem_cons_self))
   have HBg := hid (MF.out.blk (g := w.heap.size) (t := 36) (List.mem_cons_of_mem _ (List.mem_cons_of_mem _ List.mem_cons_self)))
   have K6 := hid ((MF.out.perm (List.perm_middle (l₁ := [_, _]))).setRow (vs' := CF))
   clear M2 ek2 ex2 eC2 hC2
   go_wp2_with (first | (refine wpList_load_row rfl 36 _ rfl (w.heap.size + 1) rfl 36 CF.toArray (0, 0) _ HB3.out Tryz.underlying36 rfl I36.out ?_) | (refine wpList_store_row rfl 36 _ _ rfl w.heap.size CF.toArray rfl rfl 36 _ HBg.out I36.out Z36.out O36.out ?_))
   refine ret_evD rfl rfl (K6.out.blk List.mem_cons_self) hCF rfl ⟨[ptr 0], FIN.out.2.1, by rw [← eCF.out], FIN.out.2.2 _ K6.out.tail.swap.tail⟩
set_option linter.unusedVariables false
set_option maxRecDepth 1000000
set_option maxHeartbeats 12800000
theorem revent_j {R g c : Nat} {l : Ws} {k : Nat} {x : Int} {cs : List Comp} {w : World} (hk : k ≤ l.length) (hl16 : l.length * 16 ≤ 140737488355328) (hs : ∀ y ∈ l, y.length ≤ 140737488355328) (hS : ∀ W, All cs W → Rt W (.slice (some ⟨g, 0, none⟩) l.length c) l) (hq : kdP (dW l k x) 12 = 10) (A : All (rdB R (.slice (some ⟨g, 0, none⟩) l.length c) k x :: cs) w) :
   Calls Tryz.prog 74 #[.pointer (some ⟨R, 0, none⟩)] w (DEPost 10 R (.slice (some ⟨g, 0, none⟩) l.length c) l (dK l k x) (dX l k x) cs) := by
 have hl : l.length ≤ 140737488355328 := by omega
 obtain ⟨q, eq⟩ : ∃ v, Hid (v = dW l k x) := ⟨_, hid rfl⟩
 obtain ⟨k1, ek1⟩ : ∃ v, Hid (v = dK l k x) := ⟨_, hid rfl⟩
 obtain ⟨xw, exw⟩ : ∃ v, Hid (v = dX l k x) := ⟨_, hid rfl⟩
 rw [← eq.out] at hq
 have HQ := hid hq
 clear hq
 rw [← ek1.out, ← exw.out]
 have WRD : Hid (∀ (k : Nat) (x : Int) (c1 c2 : Comp) W, k ≤ l.length → All (rdB R (.slice (some ⟨g, 0, none⟩) l.length c) k x :: c1 :: c2 :: cs) W → Calls Tryz.prog 107 #[.pointer (some ⟨R, 0, none⟩)] W fun r w' => r = .returned (.string ⟨(dW l k x).toArray⟩) ∧ All (rdB R (.slice (some ⟨g, 0, none⟩) l.length c) (dK l k x) (dX l k x) :: c1 :: c2 :: cs) w') := hid (fun k x c1 c2 W hk h => rword_any hk hl (fun V hV => hS V hV.tail.tail) h)
 have NUM : Hid (∀ (k : Nat) (x : Int) (c1 c2 : Comp) W, k ≤ l.length → All (rdB R (.slice (some ⟨g, 0, none⟩) l.length c) k x :: c1 :: c2 :: cs) W → Calls Tryz.prog 108 #[.pointer (some ⟨R, 0, none⟩)] W fun r w' => r = .returned (.int .i64 (dN l k x)) ∧ All (rdB R (.slice (some ⟨g, 0, none⟩) l.length c) (dK l k x) (dNX l k x) :: c1 :: c2 :: cs) w') := hid (fun k x c1 c2 W hk h => rnumber_any hk hl hs (fun V hV => hS V hV.tail.tail) h)
 have LOK : Hid (∀ (k : Nat) (x : Int) (c1 c2 : Comp) W, k ≤ l.length → All (rdB R (.slice (some ⟨g, 0, none⟩) l.length c) k x :: c1 :: c2 :: cs) W → Calls Tryz.prog 111 #[.pointer (some ⟨R, 0, none⟩)] W fun e w' => ∃ (k1 k2 k3 k4 k5 k6 k7 k8 : Nat) (x1 x2 x3 x4 x5 x6 x7 x8 : Int), k1 = dK l k x ∧ x1 = dNX l k x ∧ k2 = dK l k1 x1 ∧ x2 = dLX l k1 x1 ∧ k3 = dK l k2 x2 ∧ x3 = dNX l k2 x2 ∧ k4 = dK l k3 x3 ∧ x4 = dNX l k3 x3 ∧ k5 = dK l k4 x4 ∧ x5 = dNX l k4 x4 ∧ k6 = dK l k5 x5 ∧ x6 = dNX l k5 x5 ∧ k7 = dK l k6 x6 ∧ x7 = dNX l k6 x6 ∧ k8 = dK l k7 x7 ∧ x8 = dNX l k7 x7 ∧
     e = .returned (.agg #[.int .i64 (dN l k x), .int .i64 (stI (dW l k1 x1)), .int .i64 (dN l k2 x2), .int .i64 (dN l k3 x3), .int .i64 (dN l k4 x4), .int .i64 (dN l k5 x5), .int .i64 (dN l k6 x6), .int .i64 (dN l k7 x7)]) ∧ All (rdB R (.slice (some ⟨g, 0, none⟩) l.length c) k8 x8 :: c1 :: c2 :: cs) w') := hid (fun k x c1 c2 W hk h => rlook_doc hk hl hs (fun V hV => hS V hV.tail.tail) h)
 have LEK : Hid (∀ (k : Nat) (x : Int), k ≤ l.length → dK l k x ≤ l.length) := hid (fun k x hk => dK_le hk)
 have A1 := hid (((A.addBlk zC 36).addBlk zC 36).perm (List.perm_middle (l₁ := [_, _])))
 have sz : ∀ (V : World) (o : Obj), (V.alloc o).heap.size = V.heap.size + 1 := fun V o => by simp
 rw [sz] at A1
 have I36 : Hid ((Tryz.prog.info? 36).map (·.size) = some (zC.toArray : Array Value).size) := hid (by kernel_rfl)
 have O36 : Hid ((zC.toArray : Array Value).all (·.oneCell') = true) := hid (by kernel_rfl)
 have K0 := hid ((A1.out.swap.setRow (vs' := zC)).swap)
 have HBn := hid (A1.out.blk (g := w.heap.size + 1) (t := 36) (List.mem_cons_of_mem _ List.mem_cons_self))
 clear A hS hs sz A1
 go_enter Tryz.func74, Tryz.ntmps74
 go_upto_region 2 with (refine wpList_store_row rfl 36 _ _ rfl (w.heap.size + 1) zC.toArray rfl rfl 36 _ HBn.out I36.out rfl O36.out ?_)
 generalize World.setRow _ _ _ = wa0 at *
 clear HBn I36 O36
 have CW := hid (WRD.out k x _ _ _ hk K0.out)
 have hk1 : k1 ≤ l.length := by rw [ek1.out]; exact dK_le hk
 rw [← eq.out, ← ek1.out, ← exw.out] at CW
 go_upto_region 3 with (go_at_call 107; refine CW.out.mono ?_; rintro r w2 ⟨rfl, B2⟩; have K2 := hid B2; clear B2)
 have hz : (Ev.zero (kdP q 1)).cells = (Ev.zero 0).cells := by unfold kdP; simp [kdP]
 have K3 : Hid (All (rdB R (.slice (some ⟨g, 0, none⟩) l.length c) k1 xw :: blkC (w.heap.size + 1) (Ev.zero (kdP q 1)).cells 36 :: blkC w.heap.size (Ev.zero 0).cells 36 :: cs) w2) := hid (by rw [hz]; exact K2.out)
 have SET : Hid (∀ (a b : Int), (Ev.zero a).cells.set 0 (.int .i64 b) = (Ev.zero b).cells) := hid (fun _ _ => rfl)
 have GET : Hid (∀ a : Int, (Ev.zero a).cells[0]? = some (.int .i64 a)) := hid (fun _ => rfl)
 clear hz K2 CW K0 WRD
 go_wp2
 go_loopw [5] (fun iv wr => ∃ i : Nat, 1 ≤ i ∧ i ≤ 12 ∧ iv = .int .i64 (i : Int) ∧ Hid (All (rdB R (.slice (some ⟨g, 0, none⟩) l.length c) k1 xw :: blkC (w.heap.size + 1) (Ev.zero (kdP q i)).cells 36 :: blkC w.heap.size (Ev.zero 0).cells 36 :: cs) wr)) (fun iv _ => 13 - (intOf iv).toNat)
 case atStart => exact ⟨1, by omega, by omega, rfl, K3⟩
 case round =>
   obtain ⟨i, h1, h4, rfl, HK⟩ := hrel
   clear K3
   by_cases hi : i ≤ 11
   · have hi' : (i : Int) ≤ 11 := by omega
     have cS := hid (word_any (i : Int) wr)
     by_cases hq : q = wordN (i : Int)
     · have hq' : ((⟨q.toArray⟩ : ByteArray).toList == (⟨(wordN (i : Int)).toArray⟩ : ByteArray).toList) = true := by rw [ba_ne]; simpa using hq
       have hst : kdP q (i + 1) = (i : Int) := by rw [kdP, if_pos ⟨by omega, hq⟩]
       have c1 := hid (fun W (h : Below wr.heap.size wr W) => cell_in (HK.out.later h) (P := w.heap.size + 1) (t := 36) (o := 0) (List.mem_cons_of_mem _ List.mem_cons_self) (GET.out _))
       have f1 := hid (fun W (h : Below wr.heap.size wr W) => free_at ((HK.out.later h).blk (g := w.heap.size + 1) (t := 36) (List.mem_cons_of_mem _ List.mem_cons_self)) 0)
       generalize ByteArray.mk q.toArray = X at *
       generalize ByteArray.mk (wordN (i : Int)).toArray = Y at *
       go_wp2_with (go_at_call 60; refine cS.out.mono ?_; rintro r w5 ⟨rfl, B5⟩; have HL := hid B5; have d1 := c1.out _ B5; have g1 := f1.out _ B5; clear B5)
       go_roundw
       case rel => exact ⟨i + 1, by omega, by omega, by go_num, hid (by have h6 := ((HK.out.later HL.out).swap.setBlk 0 (.int .i64 (i : Int))).swap; rw [SET.out] at h6; rw [hst]; exact h6)⟩
       case measure => simp [intOf]; omega
     · have hq' : ((⟨q.toArray⟩ : ByteArray).toList == (⟨(wordN (i : Int)).toArray⟩ : ByteArray).toList) = false := by rw [ba_ne]; simpa using hq
       have hst : kdP q (i + 1) = kdP q i := by rw [kdP, if_neg (by simp [hq])]
       generalize ByteArray.mk q.toArray = X at *
       generalize ByteArray.mk (wordN (i : Int)).toArray = Y at *
       go_wp2_with (go_at_call 60; refine cS.out.mono ?_; rintro r w5 ⟨rfl, B5⟩; have HL := hid B5; clear B5)
       go_roundw
       case rel => exact ⟨i + 1, by omega, by omega, by go_num, hid (by rw [hst]; exact HK.out.later HL.out)⟩
       case measure => simp [intOf]; omega
   have i12 : i = 12 := by omega
   subst i12
   rw [HQ.out] at HK
   have c0 := cell_in HK.out (P := w.heap.size + 1) (t := 36) (o := 0) (List.mem_cons_of_mem _ List.mem_cons_self) (GET.out _)
   clear hi HQ eq SET
   go_upto_region 11 with fail
   clear c0
   have CN0 := hid (NUM.out k1 xw _ _ _ hk1 HK.out)
   go_upto_region 12 with (go_at_call 108; refine CN0.out.mono ?_; rintro r wb0 ⟨rfl, B⟩; have L0 := hid B; clear B; have cc0 := cell_in L0.out (P := w.heap.size + 1) (t := 36) (o := 1) (List.mem_cons_of_mem _ List.mem_cons_self) rfl; have ff0 := free_at (L0.out.blk (g := w.heap.size + 1) (t := 36) (List.mem_cons_of_mem _ List.mem_cons_self)) 1)
   have M0 := hid ((L0.out.swap.setBlk 1 (.int .i64 (dN l k1 xw))).swap)
   generalize World.setCell _ _ _ = wc0 at *
   clear cc0 ff0 L0 CN0 HK
   have c0 := cell_in M0.out (P := w.heap.size + 1) (t := 36) (o := 0) (List.mem_cons_of_mem _ List.mem_cons_self) (show ((Ev.zero 10).cells.set 1 (.int .i64 (dN l k1 xw)))[0]? = some (.int .i64 10) from rfl)
   obtain ⟨k2, ek2⟩ : ∃ v, Hid (v = dK l k1 xw) := ⟨_, hid rfl⟩
   obtain ⟨x2, ex2⟩ : ∃ v, Hid (v = dNX l k1 xw) := ⟨_, hid rfl⟩
   obtain ⟨C2, eC2⟩ : ∃ v, Hid (v = (Ev.zero 10).cells.set 1 (.int .i64 (dN l k1 xw))) := ⟨_, hid rfl⟩
   have hC2 : C2.length = 33 := by rw [eC2.out]; rfl
   have hk2 : k2 ≤ l.length := by rw [ek2.out]; exact LEK.out _ _ hk1
   rw [← ek2.out, ← ex2.out, ← eC2.out] at M0
   go_upto_region 43 with fail
   clear c0 GET
   have M2 := M0
   clear M0
   have CN2 := hid (LOK.out k2 x2 _ _ _ hk2 M2.out)
   have IO2 : Hid (∀ a b c d e f g h : Int, (Tryz.prog.info? 31).map (·.size) = some (#[.int .i64 a, .int .i64 b, .int .i64 c, .int .i64 d, .int .i64 e, .int .i64 f, .int .i64 g, .int .i64 h] : Array Value).size) := hid (fun a b c d e f g h => by kernel_rfl)
   have OO2 : Hid (∀ a b c d e f g h : Int, (#[.int .i64 a, .int .i64 b, .int .i64 c, .int .i64 d, .int .i64 e, .int .i64 f, .int .i64 g, .int .i64 h] : Array Value).all (·.oneCell') = true) := hid (fun a b c d e f g h => by simp [Value.oneCell'])
   go_upto_region 48 with (first
     | (go_at_call 111; refine CN2.out.mono ?_; rintro r wb2 ⟨k2a, k2b, k2c, k2d, k2e, k2f, k2g, k2h, x2a, x2b, x2c, x2d, x2e, x2f, x2g, x2h, ea, ya, eb, yb, ec, yc, ed, yd, ee, ye, ef, yf, eg, yg, eh, yh, rfl, B⟩; have L2 := hid B; clear B; have EQ := hid (And.intro ea (And.intro ya (And.intro eb (And.intro yb (And.intro ec (And.intro yc (And.intro ed (And.intro yd (And.intro ee (And.intro ye (And.intro ef (And.intro yf (And.intro eg (And.intro yg (And.intro eh yh))))))))))))))); clear ea ya eb yb ec yc ed yd ee ye ef yf eg yg eh yh; have TH2 : Hid (wb2.there (w.heap.size + 1) 22 8) := hid (fun z hz => ⟨by rw [cell_at (L2.out.blk (g := w.heap.size + 1) (vs := C2) (t := 36) (List.mem_cons_of_mem _ List.mem_cons_self)), List.getElem?_toArray, List.getElem?_eq_getElem (by omega)]; rfl, free_at (L2.out.blk (g := w.heap.size + 1) (vs := C2) (t := 36) (List.mem_cons_of_mem _ List.mem_cons_self)) _⟩))
     | (refine wpList_store_mid rfl 31 _ _ rfl (w.heap.size + 1) 22 #[.int .i64 (dN l k2 x2), .int .i64 (stI (dW l k2a x2a)), .int .i64 (dN l k2b x2b), .int .i64 (dN l k2c x2c), .int .i64 (dN l k2d x2d), .int .i64 (dN l k2e x2e), .int .i64 (dN l k2f x2f), .int .i64 (dN l k2g x2g)] rfl rfl TH2.out (IO2.out _ _ _ _ _ _ _ _) (OO2.out _ _ _ _ _ _ _ _) ?_; rw [List.toList_toArray]))
   have M3 : Hid (All (rdB R (.slice (some ⟨g, 0, none⟩) l.length c) k2h x2h :: blkC (w.heap.size + 1) (((((((((C2).set 22 (.int .i64 (dN l k2 x2))).set 23 (.int .i64 (stI (dW l k2a x2a)))).set 24 (.int .i64 (dN l k2b x2b))).set 25 (.int .i64 (dN l k2c x2c))).set 26 (.int .i64 (dN l k2d x2d))).set 27 (.int .i64 (dN l k2e x2e))).set 28 (.int .i64 (dN l k2f x2f))).set 29 (.int .i64 (dN l k2g x2g))) 36 :: blkC w.heap.size (Ev.zero 0).cells 36 :: cs) (wb2.setCells (w.heap.size + 1) 22 [.int .i64 (dN l k2 x2), .int .i64 (stI (dW l k2a x2a)), .int .i64 (dN l k2b x2b), .int .i64 (dN l k2c x2c), .int .i64 (dN l k2d x2d), .int .i64 (dN l k2e x2e), .int .i64 (dN l k2f x2f), .int .i64 (dN l k2g x2g)])) := hid ((((((((((L2.out.swap).setBlk 22 (.int .i64 (dN l k2 x2))).setBlk (22 + 1) (.int .i64 (stI (dW l k2a x2a)))).setBlk (22 + 2) (.int .i64 (dN l k2b x2b))).setBlk (22 + 3) (.int .i64 (dN l k2c x2c))).setBlk (22 + 4) (.int .i64 (dN l k2d x2d))).setBlk (22 + 5) (.int .i64 (dN l k2e x2e))).setBlk (22 + 6) (.int .i64 (dN l k2f x2f))).setBlk (22 + 7) (.int .i64 (dN l k2g x2g))).swap)
   generalize World.setCells _ _ _ _ = wc2 at *
   clear TH2 L2 CN2 M2 IO2 OO2
   obtain ⟨k3, ek3⟩ : ∃ v, Hid (v = k2h) := ⟨_, hid rfl⟩
   obtain ⟨x3, ex3⟩ : ∃ v, Hid (v = x2h) := ⟨_, hid rfl⟩
   obtain ⟨C3, eC3⟩ : ∃ v, Hid (v = ((((((((C2).set 22 (.int .i64 (dN l k2 x2))).set 23 (.int .i64 (stI (dW l k2a x2a)))).set 24 (.int .i64 (dN l k2b x2b))).set 25 (.int .i64 (dN l k2c x2c))).set 26 (.int .i64 (dN l k2d x2d))).set 27 (.int .i64 (dN l k2e x2e))).set 28 (.int .i64 (dN l k2f x2f))).set 29 (.int .i64 (dN l k2g x2g))) := ⟨_, hid rfl⟩
   have hC3 : C3.length = 33 := by rw [eC3.out]; simp only [List.length_set]; exact hC2
   rw [← ek3.out, ← ex3.out, ← eC3.out] at M3
   obtain ⟨CF, eCF⟩ : ∃ v, Hid (v = putL (Ev.zero 10).cells (tsK 10) (dRun (tsK 10) l k1 xw).1 [ptr 0, ptr 0, ptr 0, ptr 0, ptr 0, ptr 0, ptr 0, ptr 0, ptr 0]) := ⟨_, hid rfl⟩
   have FIN : Hid (C3 = CF ∧ [ptr 0, ptr 0, ptr 0, ptr 0, ptr 0, ptr 0, ptr 0, ptr 0, ptr 0].length = (dRun (tsK 10) l k1 xw).1.length ∧ (∀ W, All (rdB R (.slice (some ⟨g, 0, none⟩) l.length c) k3 x3 ::  cs) W → All (rdB R (.slice (some ⟨g, 0, none⟩) l.length c) (dRun (tsK 10) l k1 xw).2.1 (dRun (tsK 10) l k1 xw).2.2 :: (ownL (dRun (tsK 10) l k1 xw).1 [ptr 0, ptr 0, ptr 0, ptr 0, ptr 0, ptr 0, ptr 0, ptr 0, ptr 0] ++ cs)) W)) := hid (by
     rw [eCF.out]
     have h := eC3.out; subst h; have h := ek3.out; subst h; have h := ex3.out; subst h
     obtain ⟨ea, ya, eb, yb, ec, yc, ed, yd, ee, ye, ef, yf, eg, yg, eh, yh⟩ := EQ.out
     subst eh; subst yh; subst eg; subst yg; subst ef; subst yf; subst ee; subst ye; subst ed; subst yd; subst ec; subst yc; subst eb; subst yb; subst ea; subst ya
     have h := eC2.out; subst h; have h := ek2.out; subst h; have h := ex2.out; subst h
     exact ⟨rfl, rfl, fun W h => h⟩)
   have hCF : CF.length = 33 := by rw [← FIN.out.1]; exact hC3
   have MF := M3
   rw [FIN.out.1] at MF
   have I36 : Hid ((Tryz.prog.info? 36).map (·.size) = some CF.toArray.size) := hid (by rw [List.size_toArray, hCF]; kernel_rfl)
   have Z36 : Hid ((Ev.zero 0).cells.toArray.size = CF.toArray.size) := hid ((show (Ev.zero 0).cells.toArray.size = 33 from rfl).trans (by rw [List.size_toArray, hCF]))
   have O36 : Hid (CF.toArray.all (·.oneCell') = true) := hid (all_oneCell_toArray (by
     rw [eCF.out]
     have h1 := FIN.out.2.2 _ ((MF.out.swap.tail).swap.tail)
     exact putL_one (zero_one _) h1.tail))
   have HB3 := hid (MF.out.blk (g := w.heap.size + 1) (t := 36) (List.mem_cons_of_mem _ List.mem_cons_self))
   have HBg := hid (MF.out.blk (g := w.heap.size) (t := 36) (List.mem_cons_of_mem _ (List.mem_cons_of_mem _ List.mem_cons_self)))
   have K6 := hid ((MF.out.perm (List.perm_middle (l₁ := [_, _]))).setRow (vs' := CF))
   clear M3 ek2 ex2 eC2 ek3 ex3 eC3 EQ hC3
   go_wp2_with (first | (refine wpList_load_row rfl 36 _ rfl (w.heap.size + 1) rfl 36 CF.toArray (0, 0) _ HB3.out Tryz.underlying36 rfl I36.out ?_) | (refine wpList_store_row rfl 36 _ _ rfl w.heap.size CF.toArray rfl rfl 36 _ HBg.out I36.out Z36.out O36.out ?_))
   refine ret_evD rfl rfl (K6.out.blk List.mem_cons_self) hCF rfl ⟨[ptr 0, ptr 0, ptr 0, ptr 0, ptr 0, ptr 0, ptr 0, ptr 0, ptr 0], FIN.out.2.1, by rw [← eCF.out], FIN.out.2.2 _ K6.out.tail.swap.tail⟩
set_option linter.unusedVariables false
set_option maxRecDepth 1000000
set_option maxHeartbeats 12800000
theorem revent_k {R g c : Nat} {l : Ws} {k : Nat} {x : Int} {cs : List Comp} {w : World} (hk : k ≤ l.length) (hl16 : l.length * 16 ≤ 140737488355328) (hs : ∀ y ∈ l, y.length ≤ 140737488355328) (hS : ∀ W, All cs W → Rt W (.slice (some ⟨g, 0, none⟩) l.length c) l) (hq : kdP (dW l k x) 12 = 11) (A : All (rdB R (.slice (some ⟨g, 0, none⟩) l.length c) k x :: cs) w) :
   Calls Tryz.prog 74 #[.pointer (some ⟨R, 0, none⟩)] w (DEPost 11 R (.slice (some ⟨g, 0, none⟩) l.length c) l (dK l k x) (dX l k x) cs) := by
 have hl : l.length ≤ 140737488355328 := by omega
 obtain ⟨q, eq⟩ : ∃ v, Hid (v = dW l k x) := ⟨_, hid rfl⟩
 obtain ⟨k1, ek1⟩ : ∃ v, Hid (v = dK l k x) := ⟨_, hid rfl⟩
 obtain ⟨xw, exw⟩ : ∃ v, Hid (v = dX l k x) := ⟨_, hid rfl⟩
 rw [← eq.out] at hq
 have HQ := hid hq
 clear hq
 rw [← ek1.out, ← exw.out]
 have WRD : Hid (∀ (k : Nat) (x : Int) (c1 c2 : Comp) W, k ≤ l.length → All (rdB R (.slice (some ⟨g, 0, none⟩) l.length c) k x :: c1 :: c2 :: cs) W → Calls Tryz.prog 107 #[.pointer (some ⟨R, 0, none⟩)] W fun r w' => r = .returned (.string ⟨(dW l k x).toArray⟩) ∧ All (rdB R (.slice (some ⟨g, 0, none⟩) l.length c) (dK l k x) (dX l k x) :: c1 :: c2 :: cs) w') := hid (fun k x c1 c2 W hk h => rword_any hk hl (fun V hV => hS V hV.tail.tail) h)
 have NUM : Hid (∀ (k : Nat) (x : Int) (c1 c2 : Comp) W, k ≤ l.length → All (rdB R (.slice (some ⟨g, 0, none⟩) l.length c) k x :: c1 :: c2 :: cs) W → Calls Tryz.prog 108 #[.pointer (some ⟨R, 0, none⟩)] W fun r w' => r = .returned (.int .i64 (dN l k x)) ∧ All (rdB R (.slice (some ⟨g, 0, none⟩) l.length c) (dK l k x) (dNX l k x) :: c1 :: c2 :: cs) w') := hid (fun k x c1 c2 W hk h => rnumber_any hk hl hs (fun V hV => hS V hV.tail.tail) h)
 have DAT : Hid (∀ (k : Nat) (x : Int) (c1 c2 : Comp) W, k ≤ l.length → All (rdB R (.slice (some ⟨g, 0, none⟩) l.length c) k x :: c1 :: c2 :: cs) W → Calls Tryz.prog 112 #[.pointer (some ⟨R, 0, none⟩)] W fun e w' => ∃ v, e = .returned v ∧ All (ownC 5 v (cellsB ((hxP (dW l k x)).getD [])) :: rdB R (.slice (some ⟨g, 0, none⟩) l.length c) (dK l k x) (dDE l k x) :: c1 :: c2 :: cs) w') := hid (fun k x c1 c2 W hk h => rdata_doc hk hl hs (fun V hV => hS V hV.tail.tail) h)
 have LEK : Hid (∀ (k : Nat) (x : Int), k ≤ l.length → dK l k x ≤ l.length) := hid (fun k x hk => dK_le hk)
 have A1 := hid (((A.addBlk zC 36).addBlk zC 36).perm (List.perm_middle (l₁ := [_, _])))
 have sz : ∀ (V : World) (o : Obj), (V.alloc o).heap.size = V.heap.size + 1 := fun V o => by simp
 rw [sz] at A1
 have I36 : Hid ((Tryz.prog.info? 36).map (·.size) = some (zC.toArray : Array Value).size) := hid (by kernel_rfl)
 have O36 : Hid ((zC.toArray : Array Value).all (·.oneCell') = true) := hid (by kernel_rfl)
 have K0 := hid ((A1.out.swap.setRow (vs' := zC)).swap)
 have HBn := hid (A1.out.blk (g := w.heap.size + 1) (t := 36) (List.mem_cons_of_mem _ List.mem_cons_self))
 clear A hS hs sz A1
 go_enter Tryz.func74, Tryz.ntmps74
 go_upto_region 2 with (refine wpList_store_row rfl 36 _ _ rfl (w.heap.size + 1) zC.toArray rfl rfl 36 _ HBn.out I36.out rfl O36.out ?_)
 generalize World.setRow _ _ _ = wa0 at *
 clear HBn I36 O36
 have CW := hid (WRD.out k x _ _ _ hk K0.out)
 have hk1 : k1 ≤ l.length := by rw [ek1.out]; exact dK_le hk
 rw [← eq.out, ← ek1.out, ← exw.out] at CW
 go_upto_region 3 with (go_at_call 107; refine CW.out.mono ?_; rintro r w2 ⟨rfl, B2⟩; have K2 := hid B2; clear B2)
 have hz : (Ev.zero (kdP q 1)).cells = (Ev.zero 0).cells := by unfold kdP; simp [kdP]
 have K3 : Hid (All (rdB R (.slice (some ⟨g, 0, none⟩) l.length c) k1 xw :: blkC (w.heap.size + 1) (Ev.zero (kdP q 1)).cells 36 :: blkC w.heap.size (Ev.zero 0).cells 36 :: cs) w2) := hid (by rw [hz]; exact K2.out)
 have SET : Hid (∀ (a b : Int), (Ev.zero a).cells.set 0 (.int .i64 b) = (Ev.zero b).cells) := hid (fun _ _ => rfl)
 have GET : Hid (∀ a : Int, (Ev.zero a).cells[0]? = some (.int .i64 a)) := hid (fun _ => rfl)
 clear hz K2 CW K0 WRD
 go_wp2
 go_loopw [5] (fun iv wr => ∃ i : Nat, 1 ≤ i ∧ i ≤ 12 ∧ iv = .int .i64 (i : Int) ∧ Hid (All (rdB R (.slice (some ⟨g, 0, none⟩) l.length c) k1 xw :: blkC (w.heap.size + 1) (Ev.zero (kdP q i)).cells 36 :: blkC w.heap.size (Ev.zero 0).cells 36 :: cs) wr)) (fun iv _ => 13 - (intOf iv).toNat)
 case atStart => exact ⟨1, by omega, by omega, rfl, K3⟩
 case round =>
   obtain ⟨i, h1, h4, rfl, HK⟩ := hrel
   clear K3
   by_cases hi : i ≤ 11
   · have hi' : (i : Int) ≤ 11 := by omega
     have cS := hid (word_any (i : Int) wr)
     by_cases hq : q = wordN (i : Int)
     · have hq' : ((⟨q.toArray⟩ : ByteArray).toList == (⟨(wordN (i : Int)).toArray⟩ : ByteArray).toList) = true := by rw [ba_ne]; simpa using hq
       have hst : kdP q (i + 1) = (i : Int) := by rw [kdP, if_pos ⟨by omega, hq⟩]
       have c1 := hid (fun W (h : Below wr.heap.size wr W) => cell_in (HK.out.later h) (P := w.heap.size + 1) (t := 36) (o := 0) (List.mem_cons_of_mem _ List.mem_cons_self) (GET.out _))
       have f1 := hid (fun W (h : Below wr.heap.size wr W) => free_at ((HK.out.later h).blk (g := w.heap.size + 1) (t := 36) (List.mem_cons_of_mem _ List.mem_cons_self)) 0)
       generalize ByteArray.mk q.toArray = X at *
       generalize ByteArray.mk (wordN (i : Int)).toArray = Y at *
       go_wp2_with (go_at_call 60; refine cS.out.mono ?_; rintro r w5 ⟨rfl, B5⟩; have HL := hid B5; have d1 := c1.out _ B5; have g1 := f1.out _ B5; clear B5)
       go_roundw
       case rel => exact ⟨i + 1, by omega, by omega, by go_num, hid (by have h6 := ((HK.out.later HL.out).swap.setBlk 0 (.int .i64 (i : Int))).swap; rw [SET.out] at h6; rw [hst]; exact h6)⟩
       case measure => simp [intOf]; omega
     · have hq' : ((⟨q.toArray⟩ : ByteArray).toList == (⟨(wordN (i : Int)).toArray⟩ : ByteArray).toList) = false := by rw [ba_ne]; simpa using hq
       have hst : kdP q (i + 1) = kdP q i := by rw [kdP, if_neg (by simp [hq])]
       generalize ByteArray.mk q.toArray = X at *
       generalize ByteArray.mk (wordN (i : Int)).toArray = Y at *
       go_wp2_with (go_at_call 60; refine cS.out.mono ?_; rintro r w5 ⟨rfl, B5⟩; have HL := hid B5; clear B5)
       go_roundw
       case rel => exact ⟨i + 1, by omega, by omega, by go_num, hid (by rw [hst]; exact HK.out.later HL.out)⟩
       case measure => simp [intOf]; omega
   have i12 : i = 12 := by omega
   subst i12
   rw [HQ.out] at HK
   have c0 := cell_in HK.out (P := w.heap.size + 1) (t := 36) (o := 0) (List.mem_cons_of_mem _ List.mem_cons_self) (GET.out _)
   clear hi HQ eq SET
   go_upto_region 11 with fail
   clear c0
   have CN0 := hid (NUM.out k1 xw _ _ _ hk1 HK.out)
   go_upto_region 12 with (go_at_call 108; refine CN0.out.mono ?_; rintro r wb0 ⟨rfl, B⟩; have L0 := hid B; clear B; have cc0 := cell_in L0.out (P := w.heap.size + 1) (t := 36) (o := 1) (List.mem_cons_of_mem _ List.mem_cons_self) rfl; have ff0 := free_at (L0.out.blk (g := w.heap.size + 1) (t := 36) (List.mem_cons_of_mem _ List.mem_cons_self)) 1)
   have M0 := hid ((L0.out.swap.setBlk 1 (.int .i64 (dN l k1 xw))).swap)
   generalize World.setCell _ _ _ = wc0 at *
   clear cc0 ff0 L0 CN0 HK
   have c0 := cell_in M0.out (P := w.heap.size + 1) (t := 36) (o := 0) (List.mem_cons_of_mem _ List.mem_cons_self) (show ((Ev.zero 11).cells.set 1 (.int .i64 (dN l k1 xw)))[0]? = some (.int .i64 11) from rfl)
   obtain ⟨k2, ek2⟩ : ∃ v, Hid (v = dK l k1 xw) := ⟨_, hid rfl⟩
   obtain ⟨x2, ex2⟩ : ∃ v, Hid (v = dNX l k1 xw) := ⟨_, hid rfl⟩
   obtain ⟨C2, eC2⟩ : ∃ v, Hid (v = (Ev.zero 11).cells.set 1 (.int .i64 (dN l k1 xw))) := ⟨_, hid rfl⟩
   have hC2 : C2.length = 33 := by rw [eC2.out]; rfl
   have hk2 : k2 ≤ l.length := by rw [ek2.out]; exact LEK.out _ _ hk1
   rw [← ek2.out, ← ex2.out, ← eC2.out] at M0
   go_upto_region 45 with fail
   clear c0 GET
   have M2 := M0
   clear M0
   have hk2' := hk2
   obtain ⟨vo2, hvo2⟩ := some_at hC2 30 (by decide)
   have CN2 := hid (NUM.out k2 x2 _ _ _ hk2 M2.out)
   go_upto_region 46 with (go_at_call 108; refine CN2.out.mono ?_; rintro r wb2 ⟨rfl, B⟩; have L2 := hid B; clear B; have cc2 := cell_in L2.out (P := w.heap.size + 1) (t := 36) (o := 30) (List.mem_cons_of_mem _ List.mem_cons_self) hvo2; have ff2 := free_at (L2.out.blk (g := w.heap.size + 1) (t := 36) (List.mem_cons_of_mem _ List.mem_cons_self)) 30)
   have M3 := hid ((L2.out.swap.setBlk 30 (.int .i64 (dN l k2 x2))).swap)
   generalize World.setCell _ _ _ = wc2 at *
   clear cc2 ff2 L2 CN2 M2 hvo2 hk2'
   obtain ⟨k3, ek3⟩ : ∃ v, Hid (v = dK l k2 x2) := ⟨_, hid rfl⟩
   obtain ⟨x3, ex3⟩ : ∃ v, Hid (v = dNX l k2 x2) := ⟨_, hid rfl⟩
   obtain ⟨C3, eC3⟩ : ∃ v, Hid (v = C2.set 30 (.int .i64 (dN l k2 x2))) := ⟨_, hid rfl⟩
   have hC3 : C3.length = 33 := by rw [eC3.out, List.length_set]; exact hC2
   have hk3 : k3 ≤ l.length := by rw [ek3.out]; exact LEK.out _ _ hk2
   rw [← ek3.out, ← ex3.out, ← eC3.out] at M3
   have hk3' := hk3
   obtain ⟨vo3, hvo3⟩ := some_at hC3 31 (by decide)
   have CN3 := hid (NUM.out k3 x3 _ _ _ hk3 M3.out)
   go_upto_region 47 with (go_at_call 108; refine CN3.out.mono ?_; rintro r wb3 ⟨rfl, B⟩; have L3 := hid B; clear B; have cc3 := cell_in L3.out (P := w.heap.size + 1) (t := 36) (o := 31) (List.mem_cons_of_mem _ List.mem_cons_self) hvo3; have ff3 := free_at (L3.out.blk (g := w.heap.size + 1) (t := 36) (List.mem_cons_of_mem _ List.mem_cons_self)) 31)
   have M4 := hid ((L3.out.swap.setBlk 31 (.int .i64 (dN l k3 x3))).swap)
   generalize World.setCell _ _ _ = wc3 at *
   clear cc3 ff3 L3 CN3 M3 hvo3 hk3'
   obtain ⟨k4, ek4⟩ : ∃ v, Hid (v = dK l k3 x3) := ⟨_, hid rfl⟩
   obtain ⟨x4, ex4⟩ : ∃ v, Hid (v = dNX l k3 x3) := ⟨_, hid rfl⟩
   obtain ⟨C4, eC4⟩ : ∃ v, Hid (v = C3.set 31 (.int .i64 (dN l k3 x3))) := ⟨_, hid rfl⟩
   have hC4 : C4.length = 33 := by rw [eC4.out, List.length_set]; exact hC3
   have hk4 : k4 ≤ l.length := by rw [ek4.out]; exact LEK.out _ _ hk3
   rw [← ek4.out, ← ex4.out, ← eC4.out] at M4
   obtain ⟨vo4, hvo4⟩ := some_at hC4 32 (by decide)
   have CN4 := hid (DAT.out k4 x4 _ _ _ hk4 M4.out)
   go_upto_region 48 with (go_at_call 112; refine CN4.out.mono ?_; rintro r wb4 ⟨ov, rfl, B⟩; obtain ⟨oa, ocp, rfl⟩ := owns_form B.1.2.1; have L4 := hid (B.perm (List.perm_middle (l₁ := [_, _, _])).symm); clear B; have cc4 := cell_in L4.out (P := w.heap.size + 1) (t := 36) (o := 32) (List.mem_cons_of_mem _ List.mem_cons_self) hvo4; have ff4 := free_at (L4.out.blk (g := w.heap.size + 1) (t := 36) (List.mem_cons_of_mem _ List.mem_cons_self)) 32)
   have M5 := hid ((L4.out.swap.setBlk 32 (.slice oa (cellsB ((hxP (dW l k4 x4)).getD [])).length ocp)).swap)
   generalize World.setCell _ _ _ = wc4 at *
   clear cc4 ff4 L4 CN4 M4 hvo4
   obtain ⟨ov, eov⟩ : ∃ v, Hid (v = Value.slice oa (cellsB ((hxP (dW l k4 x4)).getD [])).length ocp) := ⟨_, hid rfl⟩
   rw [← eov.out] at M5
   clear eov
   obtain ⟨k5, ek5⟩ : ∃ v, Hid (v = dK l k4 x4) := ⟨_, hid rfl⟩
   obtain ⟨x5, ex5⟩ : ∃ v, Hid (v = dDE l k4 x4) := ⟨_, hid rfl⟩
   obtain ⟨C5, eC5⟩ : ∃ v, Hid (v = C4.set 32 ov) := ⟨_, hid rfl⟩
   have hC5 : C5.length = 33 := by rw [eC5.out, List.length_set]; exact hC4
   rw [← ek5.out, ← ex5.out, ← eC5.out] at M5
   obtain ⟨CF, eCF⟩ : ∃ v, Hid (v = putL (Ev.zero 11).cells (tsK 11) (dRun (tsK 11) l k1 xw).1 [ptr 0, ptr 0, ptr 0, ov]) := ⟨_, hid rfl⟩
   have FIN : Hid (C5 = CF ∧ [ptr 0, ptr 0, ptr 0, ov].length = (dRun (tsK 11) l k1 xw).1.length ∧ (∀ W, All (rdB R (.slice (some ⟨g, 0, none⟩) l.length c) k5 x5 :: ownC 5 ov (cellsB ((hxP (dW l k4 x4)).getD [])) :: cs) W → All (rdB R (.slice (some ⟨g, 0, none⟩) l.length c) (dRun (tsK 11) l k1 xw).2.1 (dRun (tsK 11) l k1 xw).2.2 :: (ownL (dRun (tsK 11) l k1 xw).1 [ptr 0, ptr 0, ptr 0, ov] ++ cs)) W)) := hid (by
     rw [eCF.out]
     have h := eC5.out; subst h; have h := ek5.out; subst h; have h := ex5.out; subst h
     have h := eC4.out; subst h; have h := ek4.out; subst h; have h := ex4.out; subst h
     have h := eC3.out; subst h; have h := ek3.out; subst h; have h := ex3.out; subst h
     have h := eC2.out; subst h; have h := ek2.out; subst h; have h := ex2.out; subst h
     exact ⟨rfl, rfl, fun W h => h⟩)
   have hCF : CF.length = 33 := by rw [← FIN.out.1]; exact hC5
   have MF := M5
   rw [FIN.out.1] at MF
   have I36 : Hid ((Tryz.prog.info? 36).map (·.size) = some CF.toArray.size) := hid (by rw [List.size_toArray, hCF]; kernel_rfl)
   have Z36 : Hid ((Ev.zero 0).cells.toArray.size = CF.toArray.size) := hid ((show (Ev.zero 0).cells.toArray.size = 33 from rfl).trans (by rw [List.size_toArray, hCF]))
   have O36 : Hid (CF.toArray.all (·.oneCell') = true) := hid (all_oneCell_toArray (by
     rw [eCF.out]
     have h1 := FIN.out.2.2 _ ((MF.out.swap.tail).swap.tail)
     exact putL_one (zero_one _) h1.tail))
   have HB3 := hid (MF.out.blk (g := w.heap.size + 1) (t := 36) (List.mem_cons_of_mem _ List.mem_cons_self))
   have HBg := hid (MF.out.blk (g := w.heap.size) (t := 36) (List.mem_cons_of_mem _ (List.mem_cons_of_mem _ List.mem_cons_self)))
   have K6 := hid ((MF.out.perm (List.perm_middle (l₁ := [_, _]))).setRow (vs' := CF))
   clear M5 ek2 ex2 eC2 ek3 ex3 eC3 ek4 ex4 eC4 ek5 ex5 eC5 hC5
   go_wp2_with (first | (refine wpList_load_row rfl 36 _ rfl (w.heap.size + 1) rfl 36 CF.toArray (0, 0) _ HB3.out Tryz.underlying36 rfl I36.out ?_) | (refine wpList_store_row rfl 36 _ _ rfl w.heap.size CF.toArray rfl rfl 36 _ HBg.out I36.out Z36.out O36.out ?_))
   refine ret_evD rfl rfl (K6.out.blk List.mem_cons_self) hCF rfl ⟨[ptr 0, ptr 0, ptr 0, ov], FIN.out.2.1, by rw [← eCF.out], FIN.out.2.2 _ K6.out.tail.swap.tail⟩
set_option linter.unusedVariables false
set_option maxRecDepth 100000
theorem kd_ev (q : List UInt8) : kdP q 12 = (((evW q).getD 0 : Nat) : Int) := by
 by_cases h1 : q = [114, 101, 102, 117, 115, 101, 100]
 · subst h1; decide +kernel
 by_cases h2 : q = [115, 117, 98, 109, 105, 116, 116, 101, 100]
 · subst h2; decide +kernel
 by_cases h3 : q = [97, 115, 107, 101, 100]
 · subst h3; decide +kernel
 by_cases h4 : q = [97, 110, 115, 119, 101, 114, 101, 100]
 · subst h4; decide +kernel
 by_cases h5 : q = [116, 111, 108, 100]
 · subst h5; decide +kernel
 by_cases h6 : q = [114, 97, 110]
 · subst h6; decide +kernel
 by_cases h7 : q = [115, 116, 97, 110, 100, 115]
 · subst h7; decide +kernel
 by_cases h8 : q = [108, 111, 115, 116]
 · subst h8; decide +kernel
 by_cases h9 : q = [100, 111, 119, 110]
 · subst h9; decide +kernel
 by_cases h10 : q = [117, 112]
 · subst h10; decide +kernel
 by_cases h11 : q = [115, 104, 101, 101, 116]
 · subst h11; decide +kernel
 have n1 : ¬ [114, 101, 102, 117, 115, 101, 100] = q := fun h => h1 h.symm
 have n2 : ¬ [115, 117, 98, 109, 105, 116, 116, 101, 100] = q := fun h => h2 h.symm
 have n3 : ¬ [97, 115, 107, 101, 100] = q := fun h => h3 h.symm
 have n4 : ¬ [97, 110, 115, 119, 101, 114, 101, 100] = q := fun h => h4 h.symm
 have n5 : ¬ [116, 111, 108, 100] = q := fun h => h5 h.symm
 have n6 : ¬ [114, 97, 110] = q := fun h => h6 h.symm
 have n7 : ¬ [115, 116, 97, 110, 100, 115] = q := fun h => h7 h.symm
 have n8 : ¬ [108, 111, 115, 116] = q := fun h => h8 h.symm
 have n9 : ¬ [100, 111, 119, 110] = q := fun h => h9 h.symm
 have n10 : ¬ [117, 112] = q := fun h => h10 h.symm
 have n11 : ¬ [115, 104, 101, 101, 116] = q := fun h => h11 h.symm
 have e1 : wordN ((1 : Nat) : Int) = [114, 101, 102, 117, 115, 101, 100] := by decide +kernel
 have e2 : wordN ((2 : Nat) : Int) = [115, 117, 98, 109, 105, 116, 116, 101, 100] := by decide +kernel
 have e3 : wordN ((3 : Nat) : Int) = [97, 115, 107, 101, 100] := by decide +kernel
 have e4 : wordN ((4 : Nat) : Int) = [97, 110, 115, 119, 101, 114, 101, 100] := by decide +kernel
 have e5 : wordN ((5 : Nat) : Int) = [116, 111, 108, 100] := by decide +kernel
 have e6 : wordN ((6 : Nat) : Int) = [114, 97, 110] := by decide +kernel
 have e7 : wordN ((7 : Nat) : Int) = [115, 116, 97, 110, 100, 115] := by decide +kernel
 have e8 : wordN ((8 : Nat) : Int) = [108, 111, 115, 116] := by decide +kernel
 have e9 : wordN ((9 : Nat) : Int) = [100, 111, 119, 110] := by decide +kernel
 have e10 : wordN ((10 : Nat) : Int) = [117, 112] := by decide +kernel
 have e11 : wordN ((11 : Nat) : Int) = [115, 104, 101, 101, 116] := by decide +kernel
 have ev : evW q = none := by
   unfold evW
   show findW q 1 [[114, 101, 102, 117, 115, 101, 100], [115, 117, 98, 109, 105, 116, 116, 101, 100], [97, 115, 107, 101, 100], [97, 110, 115, 119, 101, 114, 101, 100], [116, 111, 108, 100], [114, 97, 110], [115, 116, 97, 110, 100, 115], [108, 111, 115, 116], [100, 111, 119, 110], [117, 112], [115, 104, 101, 101, 116]] = none
   simp only [findW, n1, n2, n3, n4, n5, n6, n7, n8, n9, n10, n11, if_false]
 rw [ev]
 simp only [kdP]
 rw [e1, e2, e3, e4, e5, e6, e7, e8, e9, e10, e11]
 simp [h1, h2, h3, h4, h5, h6, h7, h8, h9, h10, h11]
theorem ev_rng {q : List UInt8} {k : Nat} (h : evW q = some k) : 1 ≤ k ∧ k ≤ 11 := by
 obtain ⟨h1, h2, _⟩ := findW_some h
 have : (kdN.drop 1).length = 11 := by decide
 omega
def DEP (R : Nat) (S : Value) (l : Ws) (cs : List Comp) (e : Ending) (w' : World) : Prop :=
 ∃ (EC : List Value) (k : Nat) (x : Int) (own : List Comp), e = .returned (.agg EC.toArray) ∧ EC.length = 33 ∧ EC.toArray.all (·.oneCell') = true ∧ All (rdB R S k x :: (own ++ cs)) w' ∧ (if k < l.length then flE x 190 else x) = reErr l ∧ (reErr l = 0 → ∃ y r j vs, l = y :: r ∧ evW y = some j ∧ vs.length = (rdsL ((kindT j).flatMap sub) r).2.2.length ∧ EC = putL (Ev.zero j).cells ((kindT j).flatMap sub) (rdsL ((kindT j).flatMap sub) r).2.2 vs ∧ own = ownL (rdsL ((kindT j).flatMap sub) r).2.2 vs)
theorem de_of {K R : Nat} {S : Value} {l r : Ws} {y : List UInt8} {cs : List Comp} {e : Ending} {w' : World} (hl : l = y :: r) (he : evW y = some K) (h : DEPost (K : Int) R S l 1 0 cs e w') : DEP R S l cs e w' := by
 obtain ⟨vs, hv, rfl, hA⟩ := h
 have hd : l.drop 1 = r := by rw [hl]; rfl
 have hlen : l.length = r.length + 1 := by rw [hl]; rfl
 obtain ⟨z1, z2⟩ := dRun_zero (sub_flat (K : Int)) l 1
 rw [hd] at z1 z2
 have hre : reErr l = if (rdsL ((kindT K).flatMap sub) r).1 ≠ 0 then (rdsL ((kindT K).flatMap sub) r).1 else if (rdsL ((kindT K).flatMap sub) r).2.1 < r.length then 190 else 0 := by
   rw [hl]
   unfold reErr
   simp only [he]
 have hone : (putL (Ev.zero K).cells (tsK K) (dRun (tsK K) l 1 0).1 vs).toArray.all (·.oneCell') = true := all_oneCell_toArray (putL_one (zero_one _) hA.tail)
 have hlen2 : (putL (Ev.zero K).cells (tsK K) (dRun (tsK K) l 1 0).1 vs).length = 33 := by rw [putL_len]; rfl
 unfold tsK at *
 by_cases h0 : (rdsL ((kindT K).flatMap sub) r).1 = 0
 · have z := z1 h0
   rw [z] at hv hA hone hlen2 ⊢
   rw [if_neg (by simp [h0])] at hre
   refine ⟨_, _, _, _, rfl, hlen2, hone, hA, ?_, fun _ => ⟨y, r, K, vs, hl, he, hv, rfl, rfl⟩⟩
   rw [hre, hlen]
   have f0 : flE 0 190 = 190 := by unfold flE; rw [if_pos rfl]
   rw [f0]
   dsimp only
   by_cases hc : (rdsL ((kindT K).flatMap sub) r).2.1 < r.length
   · rw [if_pos hc, if_pos (by omega)]
   · rw [if_neg hc, if_neg (by omega)]
 · have z := z2 h0
   rw [if_pos h0] at hre
   refine ⟨_, _, _, _, rfl, hlen2, hone, hA, ?_, fun hh => absurd (hre ▸ hh) h0⟩
   rw [hre, z, flE_ne h0]
   simp
theorem revent_any {R g c : Nat} {l : Ws} {cs : List Comp} {w : World} (hne : l ≠ []) (hl16 : l.length * 16 ≤ 140737488355328) (hs : ∀ y ∈ l, y.length ≤ 140737488355328) (hS : ∀ W, All cs W → Rt W (.slice (some ⟨g, 0, none⟩) l.length c) l) (A : All (rdB R (.slice (some ⟨g, 0, none⟩) l.length c) 0 0 :: cs) w) :
   Calls Tryz.prog 74 #[.pointer (some ⟨R, 0, none⟩)] w (DEP R (.slice (some ⟨g, 0, none⟩) l.length c) l cs) := by
 obtain ⟨y, r, hl⟩ : ∃ y r, l = y :: r := by
   cases l with
   | nil => exact absurd rfl hne
   | cons y r => exact ⟨y, r, rfl⟩
 have e1 : dW l 0 0 = y := by rw [hl]; rfl
 have e2 : dK l 0 0 = 1 := by rw [hl]; unfold dK; simp
 have e3 : dX l 0 0 = 0 := by rw [hl]; unfold dX; simp
 have hq := kd_ev y
 cases he : evW y with
 | none =>
   rw [he] at hq
   refine (revent_none (k := 0) (x := 0) (Nat.zero_le _) hl16 hs hS (by rw [e1]; exact hq) A).mono ?_
   rintro e w' ⟨rfl, hA⟩
   rw [e2, e3] at hA
   have f0 : flE 0 190 = 190 := by unfold flE; rw [if_pos rfl]
   have f9 : flE 190 190 = 190 := by unfold flE; rw [if_neg (by decide)]
   have hre : reErr l = 190 := by rw [hl]; unfold reErr; simp only [he]
   rw [f0] at hA
   refine ⟨(Ev.zero 0).cells, 1, 190, [], rfl, rfl, by kernel_rfl, hA, by rw [hre, f9]; simp, fun h => absurd (hre ▸ h) (by decide)⟩
 | some K =>
   rw [he] at hq
   have hq' : kdP (dW l 0 0) 12 = (K : Int) := by rw [e1]; exact hq
   obtain ⟨k1, k2⟩ := ev_rng he
   obtain rfl | rfl | rfl | rfl | rfl | rfl | rfl | rfl | rfl | rfl | rfl : K = 1 ∨ K = 2 ∨ K = 3 ∨ K = 4 ∨ K = 5 ∨ K = 6 ∨ K = 7 ∨ K = 8 ∨ K = 9 ∨ K = 10 ∨ K = 11 := by omega
   · exact (revent_a (k := 0) (x := 0) (Nat.zero_le _) hl16 hs hS hq' A).mono fun e w' h => by rw [e2, e3] at h; exact de_of (K := 1) hl he h
   · exact (revent_b (k := 0) (x := 0) (Nat.zero_le _) hl16 hs hS hq' A).mono fun e w' h => by rw [e2, e3] at h; exact de_of (K := 2) hl he h
   · exact (revent_c (k := 0) (x := 0) (Nat.zero_le _) hl16 hs hS hq' A).mono fun e w' h => by rw [e2, e3] at h; exact de_of (K := 3) hl he h
   · exact (revent_d (k := 0) (x := 0) (Nat.zero_le _) hl16 hs hS hq' A).mono fun e w' h => by rw [e2, e3] at h; exact de_of (K := 4) hl he h
   · exact (revent_e (k := 0) (x := 0) (Nat.zero_le _) hl16 hs hS hq' A).mono fun e w' h => by rw [e2, e3] at h; exact de_of (K := 5) hl he h
   · exact (revent_f (k := 0) (x := 0) (Nat.zero_le _) hl16 hs hS hq' A).mono fun e w' h => by rw [e2, e3] at h; exact de_of (K := 6) hl he h
   · exact (revent_g (k := 0) (x := 0) (Nat.zero_le _) hl16 hs hS hq' A).mono fun e w' h => by rw [e2, e3] at h; exact de_of (K := 7) hl he h
   · exact (revent_h (k := 0) (x := 0) (Nat.zero_le _) hl16 hs hS hq' A).mono fun e w' h => by rw [e2, e3] at h; exact de_of (K := 8) hl he h
   · exact (revent_i (k := 0) (x := 0) (Nat.zero_le _) hl16 hs hS hq' A).mono fun e w' h => by rw [e2, e3] at h; exact de_of (K := 9) hl he h
   · exact (revent_j (k := 0) (x := 0) (Nat.zero_le _) hl16 hs hS hq' A).mono fun e w' h => by rw [e2, e3] at h; exact de_of (K := 10) hl he h
   · exact (revent_k (k := 0) (x := 0) (Nat.zero_le _) hl16 hs hS hq' A).mono fun e w' h => by rw [e2, e3] at h; exact de_of (K := 11) hl he h
set_option linter.unusedVariables false
set_option maxRecDepth 1000000
set_option maxHeartbeats 6400000
theorem yieldsIf_build {P : Program} {ops : Array Oper} {S : World → Prop} {op : Oper} {a : Act} (hw : Region.wanted op (yielded ops a.tmps) = true) (t : TypeId) (parts : Array (Nat × Operand)) (ho : op.op = .build t parts)
   (cells : Array Value) (hf : P.built t (parts.map fun (i, x) => (i, a.eval x)).toList = some cells) : YieldsIf P ops S op (.agg cells) a :=
 .inl ⟨hw, fun w _ => by
   unfold execOp
   simp only [ho, Sem.run_bind, run_build w t _ _ hf, Result.andThen_ok]
   rfl⟩
theorem revent_all {R : Nat} {s : Value} {l : Ws} {cs : List Comp} {w : World} (hf : l ≠ [] → ∃ g c, s = .slice (some ⟨g, 0, none⟩) l.length c) (hl16 : l.length * 16 ≤ 140737488355328) (hs : ∀ y ∈ l, y.length ≤ 140737488355328) (hS : ∀ W, All cs W → Rt W s l) (A : All (rdB R s 0 0 :: cs) w) :
   Calls Tryz.prog 74 #[.pointer (some ⟨R, 0, none⟩)] w (DEP R s l cs) := by
 by_cases hne : l = []
 · subst hne
   refine (revent_none (k := 0) (x := 0) (Nat.zero_le _) hl16 hs hS (by decide +kernel) A).mono ?_
   rintro e w' ⟨rfl, hA⟩
   exact ⟨(Ev.zero 0).cells, 0, 190, [], rfl, rfl, by kernel_rfl, hA, by decide, fun h => absurd h (by decide)⟩
 · obtain ⟨g, c, rfl⟩ := hf hne
   exact revent_any hne hl16 hs hS A
theorem ofWords_doc {s : Value} {l : Ws} {cs : List Comp} {w w0 : World} (hf : l ≠ [] → ∃ g c, s = .slice (some ⟨g, 0, none⟩) l.length c) (h0 : Rt w0 s l) (hi : inC w0 ∈ cs) (hl16 : l.length * 16 ≤ 140737488355328) (hs : ∀ y ∈ l, y.length ≤ 140737488355328) (A : All cs w) : Calls Tryz.prog 37 #[s] w (REPost l cs) := by
 obtain ⟨ao, c, es⟩ := h0.form
 have HS : Hid (∀ W ds, All (ds ++ cs) W → Rt W s l) := hid (fun W ds h => h0.later (h.into (List.mem_append_right _ hi)))
 have RV : Hid (∀ R W, All (rdB R s 0 0 :: blkC w.heap.size (Ev.zero 0).cells 36 :: cs) W → Calls Tryz.prog 74 #[.pointer (some ⟨R, 0, none⟩)] W (DEP R s l (blkC w.heap.size (Ev.zero 0).cells 36 :: cs))) := hid (fun R W h => revent_all hf hl16 hs (fun V hV => HS.out V [_] hV) h)
 subst es
 have A1 := hid (A.addBlk (Ev.zero 0).cells 36)
 have A2 := hid (A1.out.addBlk [.slice ao l.length c, .int .i64 0, .int .i64 0] 130)
 have FAI : Hid (∀ (R k : Nat) (x : Int) (ds : List Comp) W, All (rdB R (.slice ao l.length c) k x :: ds) W → Calls Tryz.prog 75 #[.pointer (some ⟨R, 0, none⟩), .int .i64 190] W fun r w' => r = .returned (.tuple #[]) ∧ All (rdB R (.slice ao l.length c) k (flE x 190) :: ds) w') := hid (fun R k x ds W h => rfail_any h)
 have B0 := hid bu0
 have bz := bu0
 have b1 : ∀ (a : Option Addr) (k d : Nat), Tryz.prog.built 130 [(0, .slice a k d)] = some #[.slice a k d, .int .i64 0, .int .i64 0] := fun a k d => by kernel_rfl
 have I36 : Hid ((Tryz.prog.info? 36).map (·.size) = some (Ev.zero 0).cells.toArray.size) := hid (by kernel_rfl)
 have O36 : Hid ((Ev.zero 0).cells.toArray.all (·.oneCell') = true) := hid (by kernel_rfl)
 have I130 : Hid ((Tryz.prog.info? 130).map (·.size) = some (#[Value.slice ao l.length c, .int .i64 0, .int .i64 0] : Array Value).size) := hid (by kernel_rfl)
 have DRL : Hid (∀ (xs : List Comp) V, All (xs ++ cs) V → All cs V) := hid (fun xs => by
   induction xs with
   | nil => exact fun V h => h
   | cons y ys ih => exact fun V h => ih V h.tail)
 have SET : Hid (∀ W (ds : List Comp) (EC : List Value), All (blkC w.heap.size (Ev.zero 0).cells 36 :: ds) W → All (blkC w.heap.size EC 36 :: ds) (W.setRow w.heap.size EC.toArray)) := hid (fun W ds EC h => h.setRow (vs' := EC))
 clear A hs hl16 hi h0 hf HS
 obtain ⟨n, hn⟩ : ∃ n, Hid (n = l.length) := ⟨_, hid rfl⟩
 rw [← hn.out] at RV A2 FAI I130 ⊢
 go_enter Tryz.func37, Tryz.ntmps37
 go_upto_region 1 with fail
 change Code.wp _ _ _ _ (w.alloc (.cells (Ev.zero 0).cells.toArray 36))
 generalize w.alloc (.cells (Ev.zero 0).cells.toArray 36) = w1 at *
 go_upto_region 2 with (refine wpList_store_row rfl 130 _ _ rfl w1.heap.size #[.slice ao n c, .int .i64 0, .int .i64 0] rfl rfl 130 _ (heap_alloc_new w1 _) I130.out rfl rfl ?_; rw [World.setRow_alloc_new])
 generalize w1.alloc (.cells #[.slice ao n c, .int .i64 0, .int .i64 0] 130) = w2 at *
 have CV := hid (RV.out w1.heap.size w2 A2.out)
 generalize w1.heap.size = M at *
 unfold DEP at CV
 clear RV A1 A2 I130
 go_upto_region 3 with (first
   | (go_at_call 74; refine CV.out.mono ?_; rintro e w3 ⟨EC, k3, x3, own, rfl, hlen, hone, hA3, hre, hok⟩; have HL := hid hlen; have HO := hid hone; have A3 := hid hA3; have HR := hid hre; have HOK := hid hok; clear hlen hone hA3 hre hok; have IE : Hid ((Tryz.prog.info? 36).map (·.size) = some EC.toArray.size) := hid (by rw [List.size_toArray, HL.out]; kernel_rfl); have ZE : Hid ((Ev.zero 0).cells.toArray.size = EC.toArray.size) := hid ((show (Ev.zero 0).cells.toArray.size = 33 from rfl).trans (by rw [List.size_toArray, HL.out])))
   | (refine wpList_store_row rfl 36 _ _ rfl w3.heap.size EC.toArray rfl rfl 36 _ (heap_alloc_new w3 _) IE.out ZE.out HO.out ?_; rw [World.setRow_alloc_new]))
 have A4 := hid (A3.out.addBlk EC 36)
 generalize w3.alloc (.cells EC.toArray 36) = w4 at *
 generalize w3.heap.size = D at *
 clear CV A3
 have c1 := cell_in A4.out (P := M) (t := 130) (o := 1) (List.mem_cons_of_mem _ List.mem_cons_self) rfl
 have FIN : ∀ (x5 : Int) (w5 : World), x5 = reErr l → Hid (All (rdB M (.slice ao n c) k3 x5 :: blkC D EC 36 :: (own ++ (blkC w.heap.size (Ev.zero 0).cells 36 :: cs))) w5) → True := fun _ _ _ _ => trivial
 clear FIN
 by_cases hk : k3 < n
 · have hk' : (k3 : Int) < (n : Int) := by omega
   have CF := hid (FAI.out M k3 x3 _ _ A4.out.swap)
   have HX : Hid (flE x3 190 = reErr l) := hid (by have := HR.out; rw [← hn.out, if_pos hk] at this; exact this)
   clear hk HR
   go_upto_region 5 with (go_at_call 75; refine CF.out.mono ?_; rintro e w5 ⟨rfl, hA5⟩; have A5 := hid hA5; clear hA5)
   clear c1 CF A4
   generalize flE x3 190 = x5 at *
   have c2 := cell_in A5.out (P := M) (t := 130) (o := 2) List.mem_cons_self rfl
   have HBd := hid (A5.out.blk (g := D) (vs := EC) (t := 36) (List.mem_cons_of_mem _ List.mem_cons_self))
   have HBb := hid (A5.out.blk (g := w.heap.size) (vs := (Ev.zero 0).cells) (t := 36) (by simp))
   have A6 := hid (A5.out.perm (List.perm_middle (l₁ := rdB M (.slice ao n c) k3 x5 :: blkC D EC 36 :: own)))
   by_cases h0 : x5 = 0
   · have K9 := hid (SET.out _ _ EC A6.out)
     have HZ : Hid (reErr l = 0) := hid (by rw [← HX.out]; exact h0)
     have h0' : (x5 == 0) = true := by simpa using h0
     clear A5 A6 h0
     go_wp2_with (first | (refine wpList_load_row rfl 36 _ rfl D rfl 36 EC.toArray (0, 0) _ HBd.out Tryz.underlying36 rfl IE.out ?_) | (refine wpList_store_row rfl 36 _ _ rfl w.heap.size EC.toArray rfl rfl 36 _ HBb.out IE.out ZE.out HO.out ?_))
     refine ret_ev rfl rfl rfl K9.out.1.2.1 HL.out rfl ?_
     unfold REPost
     refine ⟨EC, by rw [HZ.out]; rfl, fun h => absurd HZ.out h, fun h => ?_⟩
     obtain ⟨y, r, j, vs, e1, e2, e3, e4, e5⟩ := HOK.out h
     have K10 : All (own ++ cs) _ := K9.out.tail.tail.tail
     exact ⟨y, r, j, vs, e1, e2, e3, e4, by rw [← e5]; exact K10⟩
   · have K9 := hid (SET.out _ _ (Ev.zero 0).cells A6.out)
     have HZ : Hid (reErr l ≠ 0) := hid (by rw [← HX.out]; exact h0)
     have h0' : (x5 == 0) = false := by simpa using h0
     have K8 := hid (SET.out _ _ (Ev.zero 0).cells A6.out.drew)
     have HBb' := hid (A6.out.drew.blk (g := w.heap.size) (vs := (Ev.zero 0).cells) (t := 36) List.mem_cons_self)
     clear A5 h0
     have c2d := cell_in A6.out.drew (P := M) (t := 130) (o := 2) (List.mem_cons_of_mem _ List.mem_cons_self) rfl
     have c2e := cell_in K8.out (P := M) (t := 130) (o := 2) (List.mem_cons_of_mem _ List.mem_cons_self) rfl
     clear K9 A6
     go_upto_region 6 with fail
     clear c2
     refine wp_region_held_drew (S := (fun W => W.cell? ⟨M, 2, none⟩ = some (.int .i64 x5))) (by kernel_rfl) c2d (fun hHeld => ?_)
     refine wpAnyH_take (i := 0) (oi := { dst := some 25, op := Go.Op.build 36 #[], type := 36, pos := "ref.go:352", after := #[], guard := none }) (v := .agg (Ev.zero 0).cells.toArray) rfl (by kernel_rfl) (by kernel_rfl) (by kernel_rfl) (fun _ _ _ h => h) (yieldsIf_build (by rfl) 36 _ rfl (Ev.zero 0).cells.toArray (by kernel_rfl)) hHeld ?_
     (try simp only [puS])
     refine wpAnyH_take (i := 1) (oi := { dst := some 26, op := Go.Op.move (.tmp 4), type := 128, pos := "ref.go:352", after := #[{ on := 5, ground := Go.Ground.gcOnly Go.Departure.lateStores }], guard := none }) (v := ?_) rfl (by kernel_rfl) (by kernel_rfl) (by kernel_rfl) (fun _ _ _ h => h) (Or.inl ⟨by rfl, ?_⟩) hHeld ?_
     rotate_left
     · intro W hSw
       (try dsimp only at hSw)
       go_simp
       (try with_reducible rfl)
     (try simp only [puS])
     refine wpAnyH_take (i := 2) (oi := { dst := some 27, op := Go.Op.nilCheck (.tmp 26), type := 0, pos := "ref.go:352", after := #[{ on := 1, ground := Go.Ground.data }, { on := 5, ground := Go.Ground.gcOnly Go.Departure.lateStores }], guard := none }) (v := ?_) rfl (by kernel_rfl) (by kernel_rfl) (by kernel_rfl) (fun _ _ _ h => h) (Or.inl ⟨by rfl, ?_⟩) hHeld ?_
     rotate_left
     · intro W hSw
       (try dsimp only at hSw)
       go_simp
       (try with_reducible rfl)
     (try simp only [puS])
     refine wpAnyH_take (i := 3) (oi := { dst := some 28, op := Go.Op.fieldAddr 130 (.tmp 27) 2, type := 0, pos := "ref.go:352", after := #[{ on := 2, ground := Go.Ground.data }, { on := 5, ground := Go.Ground.gcOnly Go.Departure.lateStores }], guard := none }) (v := ?_) rfl (by kernel_rfl) (by kernel_rfl) (by kernel_rfl) (fun _ _ _ h => h) (Or.inl ⟨by rfl, ?_⟩) hHeld ?_
     rotate_left
     · intro W hSw
       (try dsimp only at hSw)
       go_simp
       (try with_reducible rfl)
     (try simp only [puS])
     refine wpAnyH_take (i := 4) (oi := { dst := some 29, op := Go.Op.load 22 (.tmp 28), type := 22, pos := "ref.go:352", after := #[{ on := 3, ground := Go.Ground.data }, { on := 5, ground := Go.Ground.gcOnly Go.Departure.lateStores }], guard := none }) (v := ?_) rfl (by kernel_rfl) (by kernel_rfl) (by kernel_rfl) (fun _ _ _ h => h) (Or.inl ⟨by rfl, ?_⟩) hHeld ?_
     rotate_left
     · intro W hSw
       (try dsimp only at hSw)
       go_simp
       (try with_reducible rfl)
     (try simp only [puS])
     refine wpAnyH_ready (rs := [5]) (by kernel_rfl) (by simp) ?_
     refine AllReadyH.cons (o := { dst := none, op := Go.Op.store 36 (.tmp 2) (.tmp 25), type := 0, pos := "ref.go:352", after := #[{ on := 0, ground := Go.Ground.data }, { on := 0, ground := Go.Ground.phase }, { on := 1, ground := Go.Ground.textOnly Go.Departure.lateStores }, { on := 2, ground := Go.Ground.textOnly Go.Departure.lateStores }, { on := 3, ground := Go.Ground.textOnly Go.Departure.lateStores }, { on := 4, ground := Go.Ground.textOnly Go.Departure.lateStores }], guard := none }) rfl (fun K hK => ?_) AllReadyH.nil
     rw [if_pos (by rfl)]
     refine wp_store_row 36 _ _ rfl w.heap.size (Ev.zero 0).cells.toArray rfl rfl 36 _ HBb'.out I36.out rfl O36.out ?_
     refine hK.out _ _ c2e (fun hHeld => ?_)
     clear hK K
     (try simp only [Act.put])
     refine wpAnyH_take (i := 6) (oi := { dst := some 3, op := Go.Op.assign (.tmp 29), type := 22, pos := "ref.go:352", after := #[{ on := 4, ground := Go.Ground.data }, { on := 5, ground := Go.Ground.chain }, { on := 0, ground := Go.Ground.phase }, { on := 1, ground := Go.Ground.phase }, { on := 2, ground := Go.Ground.phase }, { on := 3, ground := Go.Ground.phase }, { on := 4, ground := Go.Ground.phase }, { on := 5, ground := Go.Ground.phase }], guard := none }) (v := ?_) rfl (by kernel_rfl) (by kernel_rfl) (by kernel_rfl) (fun _ _ _ h => h) (Or.inl ⟨by rfl, ?_⟩) hHeld ?_
     rotate_left
     · intro W hSw
       (try dsimp only at hSw)
       go_simp
       (try with_reducible rfl)
     (try simp only [puS])
     refine wpAnyH_done (by kernel_rfl) ?_ _
     clear hHeld
     go_wp2
     refine ret_ev rfl rfl rfl K8.out.1.2.1 rfl rfl ?_
     unfold REPost
     refine ⟨(Ev.zero 0).cells, by rw [← HX.out]; rfl, fun _ => ⟨rfl, DRL.out _ _ K8.out.tail.tail.tail⟩, fun h => absurd h HZ.out⟩
 · have hk' : ¬ ((k3 : Int) < (n : Int)) := by omega
   have HX : Hid (x3 = reErr l) := hid (by have := HR.out; rw [← hn.out, if_neg hk] at this; exact this)
   clear hk HR
   go_upto_region 5 with fail
   clear c1
   have A5 := hid A4.out.swap
   clear A4
   generalize x3 = x5 at *
   generalize w4 = w5 at *
   have c2 := cell_in A5.out (P := M) (t := 130) (o := 2) List.mem_cons_self rfl
   have HBd := hid (A5.out.blk (g := D) (vs := EC) (t := 36) (List.mem_cons_of_mem _ List.mem_cons_self))
   have HBb := hid (A5.out.blk (g := w.heap.size) (vs := (Ev.zero 0).cells) (t := 36) (by simp))
   have A6 := hid (A5.out.perm (List.perm_middle (l₁ := rdB M (.slice ao n c) k3 x5 :: blkC D EC 36 :: own)))
   by_cases h0 : x5 = 0
   · have K9 := hid (SET.out _ _ EC A6.out)
     have HZ : Hid (reErr l = 0) := hid (by rw [← HX.out]; exact h0)
     have h0' : (x5 == 0) = true := by simpa using h0
     clear A5 A6 h0
     go_wp2_with (first | (refine wpList_load_row rfl 36 _ rfl D rfl 36 EC.toArray (0, 0) _ HBd.out Tryz.underlying36 rfl IE.out ?_) | (refine wpList_store_row rfl 36 _ _ rfl w.heap.size EC.toArray rfl rfl 36 _ HBb.out IE.out ZE.out HO.out ?_))
     refine ret_ev rfl rfl rfl K9.out.1.2.1 HL.out rfl ?_
     unfold REPost
     refine ⟨EC, by rw [HZ.out]; rfl, fun h => absurd HZ.out h, fun h => ?_⟩
     obtain ⟨y, r, j, vs, e1, e2, e3, e4, e5⟩ := HOK.out h
     have K10 : All (own ++ cs) _ := K9.out.tail.tail.tail
     exact ⟨y, r, j, vs, e1, e2, e3, e4, by rw [← e5]; exact K10⟩
   · have K9 := hid (SET.out _ _ (Ev.zero 0).cells A6.out)
     have HZ : Hid (reErr l ≠ 0) := hid (by rw [← HX.out]; exact h0)
     have h0' : (x5 == 0) = false := by simpa using h0
     have K8 := hid (SET.out _ _ (Ev.zero 0).cells A6.out.drew)
     have HBb' := hid (A6.out.drew.blk (g := w.heap.size) (vs := (Ev.zero 0).cells) (t := 36) List.mem_cons_self)
     clear A5 h0
     have c2d := cell_in A6.out.drew (P := M) (t := 130) (o := 2) (List.mem_cons_of_mem _ List.mem_cons_self) rfl
     have c2e := cell_in K8.out (P := M) (t := 130) (o := 2) (List.mem_cons_of_mem _ List.mem_cons_self) rfl
     clear K9 A6
     go_upto_region 6 with fail
     clear c2
     refine wp_region_held_drew (S := (fun W => W.cell? ⟨M, 2, none⟩ = some (.int .i64 x5))) (by kernel_rfl) c2d (fun hHeld => ?_)
     refine wpAnyH_take (i := 0) (oi := { dst := some 25, op := Go.Op.build 36 #[], type := 36, pos := "ref.go:352", after := #[], guard := none }) (v := .agg (Ev.zero 0).cells.toArray) rfl (by kernel_rfl) (by kernel_rfl) (by kernel_rfl) (fun _ _ _ h => h) (yieldsIf_build (by rfl) 36 _ rfl (Ev.zero 0).cells.toArray (by kernel_rfl)) hHeld ?_
     (try simp only [puS])
     refine wpAnyH_take (i := 1) (oi := { dst := some 26, op := Go.Op.move (.tmp 4), type := 128, pos := "ref.go:352", after := #[{ on := 5, ground := Go.Ground.gcOnly Go.Departure.lateStores }], guard := none }) (v := ?_) rfl (by kernel_rfl) (by kernel_rfl) (by kernel_rfl) (fun _ _ _ h => h) (Or.inl ⟨by rfl, ?_⟩) hHeld ?_
     rotate_left
     · intro W hSw
       (try dsimp only at hSw)
       go_simp
       (try with_reducible rfl)
     (try simp only [puS])
     refine wpAnyH_take (i := 2) (oi := { dst := some 27, op := Go.Op.nilCheck (.tmp 26), type := 0, pos := "ref.go:352", after := #[{ on := 1, ground := Go.Ground.data }, { on := 5, ground := Go.Ground.gcOnly Go.Departure.lateStores }], guard := none }) (v := ?_) rfl (by kernel_rfl) (by kernel_rfl) (by kernel_rfl) (fun _ _ _ h => h) (Or.inl ⟨by rfl, ?_⟩) hHeld ?_
     rotate_left
     · intro W hSw
       (try dsimp only at hSw)
       go_simp
       (try with_reducible rfl)
     (try simp only [puS])
     refine wpAnyH_take (i := 3) (oi := { dst := some 28, op := Go.Op.fieldAddr 130 (.tmp 27) 2, type := 0, pos := "ref.go:352", after := #[{ on := 2, ground := Go.Ground.data }, { on := 5, ground := Go.Ground.gcOnly Go.Departure.lateStores }], guard := none }) (v := ?_) rfl (by kernel_rfl) (by kernel_rfl) (by kernel_rfl) (fun _ _ _ h => h) (Or.inl ⟨by rfl, ?_⟩) hHeld ?_
     rotate_left
     · intro W hSw
       (try dsimp only at hSw)
       go_simp
       (try with_reducible rfl)
     (try simp only [puS])
     refine wpAnyH_take (i := 4) (oi := { dst := some 29, op := Go.Op.load 22 (.tmp 28), type := 22, pos := "ref.go:352", after := #[{ on := 3, ground := Go.Ground.data }, { on := 5, ground := Go.Ground.gcOnly Go.Departure.lateStores }], guard := none }) (v := ?_) rfl (by kernel_rfl) (by kernel_rfl) (by kernel_rfl) (fun _ _ _ h => h) (Or.inl ⟨by rfl, ?_⟩) hHeld ?_
     rotate_left
     · intro W hSw
       (try dsimp only at hSw)
       go_simp
       (try with_reducible rfl)
     (try simp only [puS])
     refine wpAnyH_ready (rs := [5]) (by kernel_rfl) (by simp) ?_
     refine AllReadyH.cons (o := { dst := none, op := Go.Op.store 36 (.tmp 2) (.tmp 25), type := 0, pos := "ref.go:352", after := #[{ on := 0, ground := Go.Ground.data }, { on := 0, ground := Go.Ground.phase }, { on := 1, ground := Go.Ground.textOnly Go.Departure.lateStores }, { on := 2, ground := Go.Ground.textOnly Go.Departure.lateStores }, { on := 3, ground := Go.Ground.textOnly Go.Departure.lateStores }, { on := 4, ground := Go.Ground.textOnly Go.Departure.lateStores }], guard := none }) rfl (fun K hK => ?_) AllReadyH.nil
     rw [if_pos (by rfl)]
     refine wp_store_row 36 _ _ rfl w.heap.size (Ev.zero 0).cells.toArray rfl rfl 36 _ HBb'.out I36.out rfl O36.out ?_
     refine hK.out _ _ c2e (fun hHeld => ?_)
     clear hK K
     (try simp only [Act.put])
     refine wpAnyH_take (i := 6) (oi := { dst := some 3, op := Go.Op.assign (.tmp 29), type := 22, pos := "ref.go:352", after := #[{ on := 4, ground := Go.Ground.data }, { on := 5, ground := Go.Ground.chain }, { on := 0, ground := Go.Ground.phase }, { on := 1, ground := Go.Ground.phase }, { on := 2, ground := Go.Ground.phase }, { on := 3, ground := Go.Ground.phase }, { on := 4, ground := Go.Ground.phase }, { on := 5, ground := Go.Ground.phase }], guard := none }) (v := ?_) rfl (by kernel_rfl) (by kernel_rfl) (by kernel_rfl) (fun _ _ _ h => h) (Or.inl ⟨by rfl, ?_⟩) hHeld ?_
     rotate_left
     · intro W hSw
       (try dsimp only at hSw)
       go_simp
       (try with_reducible rfl)
     (try simp only [puS])
     refine wpAnyH_done (by kernel_rfl) ?_ _
     clear hHeld
     go_wp2
     refine ret_ev rfl rfl rfl K8.out.1.2.1 rfl rfl ?_
     unfold REPost
     refine ⟨(Ev.zero 0).cells, by rw [← HX.out]; rfl, fun _ => ⟨rfl, DRL.out _ _ K8.out.tail.tail.tail⟩, fun h => absurd h HZ.out⟩
set_option linter.unusedVariables false
set_option maxRecDepth 1000000
set_option maxHeartbeats 6400000
theorem own_form {v : Value} {l : Ws} {cs : List Comp} {w : World} (h : All (ownC 9 v (txW l) :: cs) w) (hne : l ≠ []) : ∃ g c, v = .slice (some ⟨g, 0, none⟩) l.length c := by
 rcases h.1.2.1.2 with ⟨rfl, e⟩ | ⟨g, cap, _, rfl, _⟩
 · have : l.length = 0 := by rw [txW_length] at e; exact e
   exact absurd (List.length_eq_zero_iff.1 this) hne
 · exact ⟨g, cap, by rw [txW_length]⟩
theorem rReadLine_any {l : List UInt8} {cs : List Comp} {w : World} (hl : l.length ≤ 140737488355328) (hw : (splitW l).ws.length * 16 ≤ 140737488355328 ∧ ∀ y ∈ (splitW l).ws, y.length ≤ 140737488355328) (A : All cs w) : Calls Tryz.prog 15 #[.string ⟨l.toArray⟩] w (RLPost l cs) := by
 have A1 := hid (A.addBlk (Ev.zero 0).cells 36)
 have CS := hid (rSplit_any A1.out hl)
 have I36 : Hid ((Tryz.prog.info? 36).map (·.size) = some (Ev.zero 0).cells.toArray.size) := hid (by kernel_rfl)
 have O36 : Hid ((Ev.zero 0).cells.toArray.all (·.oneCell') = true) := hid (by kernel_rfl)
 have SET : Hid (∀ W (ds : List Comp) (EC : List Value), All (blkC w.heap.size (Ev.zero 0).cells 36 :: ds) W → All (blkC w.heap.size EC 36 :: ds) (W.setRow w.heap.size EC.toArray)) := hid (fun W ds EC h => h.setRow (vs' := EC))
 unfold SplitPost at CS
 by_cases he : (splitW l).err ≠ 0
 · have ER : Hid (rlErr l = ((splitW l).err : Int)) := hid (by unfold rlErr; rw [if_pos he])
   have hx : (((splitW l).err : Int) == 0) = false := by simp; omega
   have HX : Hid (((splitW l).err : Int) ≠ 0) := hid (by omega)
   clear A hl hw he
   unfold RLPost
   generalize ((splitW l).err : Int) = X at *
   generalize ((splitW l).at : Int) = Y at *
   generalize ByteArray.mk l.toArray = L at *
   go_enter Tryz.func15, Tryz.ntmps15
   go_upto_region 1 with fail
   change Code.wp _ _ _ _ (w.alloc (.cells (Ev.zero 0).cells.toArray 36))
   generalize w.alloc (.cells (Ev.zero 0).cells.toArray 36) = w1 at *
   go_wp2_with (first | (go_at_call 17; refine CS.out.mono ?_; rintro e w2 ⟨v2, rfl, A2⟩; have HB := hid (A2.tail.blk (g := w.heap.size) (vs := (Ev.zero 0).cells) (t := 36) (List.mem_cons_self)); have K8 := hid (SET.out _ _ (Ev.zero 0).cells A2.tail); have K9 := hid (SET.out _ _ (Ev.zero 0).cells A2.swap); clear A2) | (refine wpList_store_row rfl 36 _ _ rfl w.heap.size (Ev.zero 0).cells.toArray rfl rfl 36 _ HB.out I36.out rfl O36.out ?_))
   exact ret_ev rfl rfl rfl K8.out.1.2.1 rfl rfl ⟨(Ev.zero 0).cells, by rw [ER.out]; rfl, fun _ => ⟨rfl, K8.out.tail⟩, fun h => absurd h (by rw [ER.out]; exact HX.out)⟩
 · have he0 : (splitW l).err = 0 := by simpa using he
   have ER : Hid (rlErr l = reErr (splitW l).ws) := hid (by unfold rlErr; rw [if_neg (by simp [he0])])
   rw [he0] at CS
   have CE : Hid (∀ v W, All (ownC 9 v (txW (splitW l).ws) :: blkC w.heap.size (Ev.zero 0).cells 36 :: cs) W → Calls Tryz.prog 37 #[v] W (fun e w' => ∃ EC : List Value, e = .returned (.tuple #[.agg EC.toArray, .int .i64 (reErr (splitW l).ws)]) ∧ EC.length = 33 ∧ EC.toArray.all (·.oneCell') = true ∧ ∃ os : List Comp, All (blkC w.heap.size (Ev.zero 0).cells 36 :: (os ++ cs)) w' ∧ (reErr (splitW l).ws ≠ 0 → EC = (Ev.zero 0).cells ∧ os = []) ∧ (reErr (splitW l).ws = 0 → ∃ x r k vs, (splitW l).ws = x :: r ∧ evW x = some k ∧ vs.length = (rdsL ((kindT k).flatMap sub) r).2.2.length ∧ EC = putL (Ev.zero k).cells ((kindT k).flatMap sub) (rdsL ((kindT k).flatMap sub) r).2.2 vs ∧ os = ownL (rdsL ((kindT k).flatMap sub) r).2.2 vs))) := hid (fun v W hW => by
     refine (ofWords_doc (cs := [inC W]) (w0 := W) (own_form hW) (rt_own hW) (List.mem_cons_self) hw.1 hw.2 (All.came W)).mono ?_
     rintro e w' ⟨EC, he', hbad, hok⟩
     by_cases hz : reErr (splitW l).ws = 0
     · obtain ⟨x, r, k, vs, e1, e2, e3, e4, hA⟩ := hok hz
       have hM := All.merge hA hW.tail
       refine ⟨EC, he', by rw [e4, putL_len]; rfl, ?_, _, hM.perm List.perm_middle, fun h => absurd hz h, fun _ => ⟨x, r, k, vs, e1, e2, e3, e4, rfl⟩⟩
       rw [e4]
       exact all_oneCell_toArray (putL_one (fun u hu => (Array.all_eq_true_iff_forall_mem.1 (show (Ev.zero k).cells.toArray.all (·.oneCell') = true by kernel_rfl)) u (by simpa using hu)) hA)
     · obtain ⟨e1, hA⟩ := hbad hz
       refine ⟨EC, he', by rw [e1]; rfl, by rw [e1]; exact O36.out, [], All.merge (xs := []) hA hW.tail, fun _ => ⟨e1, rfl⟩, fun h => absurd h hz⟩)
   clear A hl hw he he0
   unfold RLPost
   rw [ER.out]
   generalize (splitW l).ws = WS at *
   generalize hRE : reErr WS = RE at *
   clear hRE ER
   generalize ((splitW l).at : Int) = Y at *
   generalize ByteArray.mk l.toArray = L at *
   go_enter Tryz.func15, Tryz.ntmps15
   go_upto_region 1 with fail
   change Code.wp _ _ _ _ (w.alloc (.cells (Ev.zero 0).cells.toArray 36))
   generalize w.alloc (.cells (Ev.zero 0).cells.toArray 36) = w1 at *
   go_wp2_with (first | (go_at_call 17; refine CS.out.mono ?_; rintro e w2 ⟨v2, rfl, A2⟩; have K2 := hid A2; clear A2) | (go_at_call 37; refine (CE.out _ _ K2.out).mono ?_; rintro e w3 ⟨EC, rfl, hlen, hone, os, A3, hb3, hg3⟩; have HB := hid (A3.blk (g := w.heap.size) (vs := (Ev.zero 0).cells) (t := 36) (List.mem_cons_self)); have K8 := hid (SET.out _ _ EC A3); have HL := hid hlen; have HO := hid hone; have HBAD := hid hb3; have HGOOD := hid hg3; have IE : Hid ((Tryz.prog.info? 36).map (·.size) = some EC.toArray.size) := hid (by rw [List.size_toArray, hlen]; kernel_rfl); have ZE : Hid ((Ev.zero 0).cells.toArray.size = EC.toArray.size) := hid (by rw [List.size_toArray, List.size_toArray, hlen]; rfl); clear A3 hlen hone hb3 hg3) | (refine wpList_store_row rfl 36 _ _ rfl w.heap.size EC.toArray rfl rfl 36 _ HB.out IE.out ZE.out HO.out ?_))
   refine ret_ev rfl rfl rfl K8.out.1.2.1 HL.out rfl ⟨EC, rfl, fun h => ?_, fun h => ?_⟩
   · obtain ⟨e1, e2⟩ := HBAD.out h
     have := K8.out.tail
     rw [e2] at this
     exact ⟨e1, this⟩
   · obtain ⟨x, r, k, vs, e1, e2, e3, e4, e5⟩ := HGOOD.out h
     have := K8.out.tail
     rw [e5] at this
     exact ⟨x, r, k, vs, e1, e2, e3, e4, this⟩
set_option linter.unusedVariables false
set_option maxRecDepth 1000000
set_option maxHeartbeats 1600000
def alike (l t : List UInt8) : Bool := decide (l = t)
theorem same_any {w : World} {s t : Value} {l m : List UInt8} (hs : Reads w s l) (ht : Reads w t m) (hl : l.length ≤ 140737488355328) (hm : m.length ≤ 140737488355328) :
   Calls Tryz.prog 34 #[s, t] w fun e w' => e = .returned (.bool (alike l m)) ∧ ∃ q, w' = w.drewN q := by
 obtain ⟨ao, c, hf⟩ := hs.form
 obtain ⟨ao', c', hf'⟩ := ht.form
 subst hf hf'
 have HS := hid hs
 have HT := hid ht
 clear hs ht
 by_cases hlm : l.length = m.length
 · have hne : ((l.length : Int) != (m.length : Int)) = false := by simp [hlm]
   go_enter Tryz.func34, Tryz.ntmps34
   go_wp2
   go_loopw [5] (fun iv wr => ∃ (k q : Nat), k ≤ l.length ∧ iv = .int .i64 (k : Int) ∧ Hid (∀ j, j < k → l.getD j 0 = m.getD j 0) ∧ w.drewN q = wr) (fun iv _ => l.length - (intOf iv).toNat)
   case atStart => exact ⟨0, 0, by omega, rfl, fun j hj => by omega, rfl⟩
   case round =>
     obtain ⟨k, q, hk, rfl, hall, rfl⟩ := hrel
     by_cases hlt : k < l.length
     · obtain ⟨g, o, rfl, h1⟩ := HS.out.at_u8 k hlt
       obtain ⟨g', o', rfl, h2⟩ := HT.out.at_u8 k (by omega)
       obtain ⟨x, hxx⟩ : ∃ x, x = (l.getD k 0).toNat := ⟨_, rfl⟩
       obtain ⟨y, hyy⟩ : ∃ y, y = (m.getD k 0).toNat := ⟨_, rfl⟩
       rw [← hxx] at h1
       rw [← hyy] at h2
       have HX := hid hxx
       have HY := hid hyy
       clear hxx hyy
       have hkm : k < m.length := by omega
       by_cases hxy : x = y
       · have hb : ((x : Int) != (y : Int)) = false := by simp [hxy]
         have hxy' := hid hxy
         clear hxy
         go_wp2
         go_region
         go_wp2
         go_roundw
         case rel => exact ⟨k + 1, q + 1, by omega, by go_num, fun j hj => by
           by_cases hjk : j < k
           · exact hall.out j hjk
           · have : j = k := by omega
             subst this
             exact u8_eq (by rw [← HX.out, ← HY.out]; exact hxy'.out), by rfl⟩
         case measure => simp [intOf]; omega
       · have hb : ((x : Int) != (y : Int)) = true := by simp; omega
         have hxy' := hid hxy
         clear hxy
         go_wp2
         go_region
         go_wp2
         go_ret
         refine ⟨?_, q + 1, rfl⟩
         have : alike l m = false := decide_eq_false (fun e => by
           subst e
           exact hxy'.out (by rw [HX.out, HY.out]))
         rw [this]; rfl
     · have hfin := hid (show alike l m = true from decide_eq_true (Classical.byContradiction fun hn => by
         obtain ⟨j, hj, hd⟩ := differ_at hlm hn
         exact hd (hall.out j (by omega))))
       go_wp2
       go_ret
       exact ⟨by rw [hfin.out]; rfl, q, rfl⟩
 · have hne : ((l.length : Int) != (m.length : Int)) = true := by simp; omega
   have hfin := hid (show alike l m = false from decide_eq_false (fun e => hlm (by rw [e])))
   clear hlm
   go_enter Tryz.func34, Tryz.ntmps34
   go_wp2
   go_ret
   exact ⟨by rw [hfin.out]; rfl, 0, rfl⟩
theorem owns_empty (w : World) : (w.alloc (.cells #[] 5)).ownsRow w.heap.size 5 1 (.slice (some ⟨w.heap.size, 0, none⟩) 0 0) 0 [] :=
 ⟨by simp, Or.inr ⟨w.heap.size, 0, #[], rfl, Nat.le_refl _, heap_alloc_new _ _, Nat.le_refl _, by unfold maxLen; omega, by simp, by simp⟩⟩
theorem grown_below {w w1 : World} {o : Obj} {k : Nat} (h : (w.alloc o).grownBy w1 (some k)) (hk : w.heap.size ≤ k) : Below w.heap.size w w1 :=
 ((Below.refl _ _).alloc (Nat.le_refl _) o).grown h (by simp) (fun j hj => by simp at hj; omega)
theorem lcopied_any {w : World} {s : Value} {l : List UInt8} (h : Reads w s l) (hlen : l.length ≤ 140737488351300) :
   Calls Tryz.prog 44 #[s] w fun e w' => ∃ v, e = .returned v ∧ w'.ownsRow w.heap.size 5 1 v l.length (cellsB l) ∧ Below w.heap.size w w' := by
 obtain ⟨i0, hi, hz0, hz1, hz2⟩ := info_parts Tryz.info5
 have hown0 := owns_empty w
 obtain ⟨ao, c, hf, hcl, hcase⟩ := h
 subst hf
 have key : ∀ a : Addr, (∀ j u, (cellsB l)[j]? = some u → (w.alloc (.cells #[] 5)).cell? (a.add j) = some u) → Calls Tryz.prog 44 #[.slice (some a) l.length c] w fun e w' => ∃ v, e = .returned v ∧ w'.ownsRow w.heap.size 5 1 v l.length (cellsB l) ∧ Below w.heap.size w w' := by
   intro a hcell
   clear hcase
   go_enter Tryz.func44, Tryz.ntmps44
   go_wp2_with (at_builtin; refine wpList_append_own_at _ rfl (.tmp 5) (.tmp 6) 32 rfl w.heap.size 5 i0 (.int .u8 0) 1 1 Tryz.underlying32 hi hz0 hz1 hz2 rfl (by decide) _ _ _ rfl hown0 a l.length c (cellsB l) rfl (by rw [cellsB_length]; omega) hcell (cellsB_one _) (by unfold maxLen; omega) (by omega) (by simp) ?_)
   intro v' w1 hown hg hnil hat
   have R := hid (show w1.ownsRow w.heap.size 5 1 v' l.length (cellsB l) ∧ Below w.heap.size w w1 from ⟨by simpa using hown, grown_below hg (Nat.le_refl _)⟩)
   obtain ⟨x, y, hv⟩ := owns_form hown
   subst hv
   clear hown hg hnil hat hown0 hcell
   go_wp2
   go_ret
   exact ⟨_, rfl, R.out⟩
 rcases hcase with ⟨rfl, h0⟩ | ⟨g, o, rfl, hg, hcell⟩
 · cases ao with
   | some a => exact key a (fun j u hu => by simp [cellsB] at hu)
   | none =>
     obtain rfl := h0 rfl
     have R := hid (show (w.alloc (.cells #[] 5)).ownsRow w.heap.size 5 1 (.slice (some ⟨w.heap.size, 0, none⟩) 0 0) 0 [] ∧ Below w.heap.size w (w.alloc (.cells #[] 5)) from ⟨hown0, (Below.refl _ _).alloc (Nat.le_refl _) _⟩)
     clear key h0
     go_enter Tryz.func44, Tryz.ntmps44
     go_wp2_with (at_builtin; refine wpList_append_own_none rfl (.tmp 5) (.tmp 6) 32 rfl w.heap.size 5 i0 1 Tryz.underlying32 hi _ _ _ rfl hown0 rfl ?_)
     clear hown0
     go_wp2
     go_ret
     exact ⟨_, rfl, R.out⟩
 · refine key _ (fun j u hu => ?_)
   rw [Addr.add_lit, World.cell?_of_block (w := w) (Below.heap_alloc _ _ _ hg)]
   exact hcell j u hu
end Go.Proofs.YtfeppannfcbakaaGreatDoor

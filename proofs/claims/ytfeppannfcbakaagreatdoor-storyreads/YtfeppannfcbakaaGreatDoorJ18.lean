import Derived.Test.YtfeppannfcbakaaGreatDoorJ10
import Derived.Test.YtfeppannfcbakaaGreatDoorJ16
import Derived.Test.YtfeppannfcbakaaGreatDoorSk2
import Derived.Test.YtfeppannfcbakaaGreatDoorJ12
import Derived.Test.YtfeppannfcbakaaGreatDoorJ7
import Derived.Test.YtfeppannfcbakaaGreatDoorCards
import Derived.Test.YtfeppannfcbakaaGreatDoorTie
import Derived.ProofKit
import Derived.OpenShut
import Derived.SizedLaws
import Derived.Deep.DeepHandedRow
import Derived.Deep.Slices
import Derived.Lib.LaidTab
import Derived.Lib.SmallJoins
import Derived.Stop.LaidErr
import Derived.Deep.Strs
namespace Go.Proofs.YtfeppannfcbakaaGreatDoor
open Go.RowKit
set_option linter.unusedVariables false
set_option maxRecDepth 1000000
set_option maxHeartbeats 12800000
structure Kit (F : Value → Value → List Value) (items : Ws) (data : List UInt8) : Prop where
 sz : ∀ a n c b m d, (Tryz.prog.info? 36).map (·.size) = some (F (.slice a n c) (.slice b m d)).toArray.size
 z : ∀ a n c b m d, (Ev.zero 0).cells.toArray.size = (F (.slice a n c) (.slice b m d)).toArray.size
 one : ∀ a n c b m d, (F (.slice a n c) (.slice b m d)).toArray.all (·.oneCell') = true
 bs : ∀ a n c b m d, ∃ ie z, Bs ie z (F (.slice a n c) (.slice b m d)).toArray
 same : ∀ a c b d a' c' b' d' cs W, All cs W → ownC 9 (.slice a items.length c) (txW items) ∈ cs → ownC 5 (.slice b data.length d) (cellsB data) ∈ cs → ownC 9 (.slice a' items.length c') (txW items) ∈ cs → ownC 5 (.slice b' data.length d') (cellsB data) ∈ cs → Calls Tryz.prog 13 #[.agg (F (.slice a items.length c) (.slice b data.length d)).toArray, .agg (F (.slice a' items.length c') (.slice b' data.length d')).toArray] W fun r w' => r = .returned (.bool true) ∧ All cs w'
 spo : ∀ a c b d H1 H2 cs W, All (blkC H2 [.slice (some ⟨H1, 0, none⟩) 1 1] 42 :: blkC H1 (F (.slice a items.length c) (.slice b data.length d)) 36 :: ownC 9 (.slice a items.length c) (txW items) :: ownC 5 (.slice b data.length d) (cellsB data) :: cs) W → Calls Tryz.prog 16 #[.slice (some ⟨H2, 0, none⟩) 1 1] W fun r w' => r = .returned (.bool true) ∧ All cs w'
theorem kit_of (e : Ev) {items : Ws} {data : List UInt8} (hi : items.length ≤ 8) (hd : data.length ≤ 2304) : Kit e.cells2 items data where
 sz := fun _ _ _ _ _ _ => by kernel_rfl
 z := fun _ _ _ _ _ _ => rfl
 one := fun _ _ _ _ _ _ => by kernel_rfl
 bs := fun a n c b m d => bs36 { e with ria := a, rik := n, ric := c, dia := b, dik := m, dic := d }
 same := fun a c b d a' c' b' d' cs W h h1 h2 h3 h4 => by
   have ne : ∀ V, All cs V → _ := fun V (hV : All cs V) => rt_mem hV h1
   exact sameEvent_true e h (fun V hV => rt_mem hV h1) (fun V hV => rt_mem hV h3) (fun V hV => brd_mem hV h2) (fun V hV => brd_mem hV h4) (by omega) (by omega)
 spo := fun a c b d H1 H2 cs W h => spoiled_any (EC := e.cells2 (.slice a items.length c) (.slice b data.length d)) rfl rfl rfl (by omega) (by omega) h
theorem pull_perm {α : Type} : ∀ (l : List α) (i : Nat) (h : i < l.length), l.Perm (l[i] :: l.eraseIdx i)
 | _ :: _, 0, _ => List.Perm.refl _
 | x :: r, i + 1, h => ((pull_perm r i (by simpa using h)).cons x).trans (List.Perm.swap _ _ _)
theorem All.pull {cs : List Comp} {w : World} (i : Nat) (hi : i < cs.length) (h : All cs w) : All (cs[i] :: cs.eraseIdx i) w := h.perm (pull_perm cs i hi)
theorem reads_law {l o : List UInt8} {w : World} (hE : En w) (hl : l.length ≤ 140737488355328) (ho : o.length ≤ 140737488355328) :
   Calls Tryz.prog 4 #[.string ⟨l.toArray⟩, .string ⟨o.toArray⟩] w fun r w' => r = .returned (.bool true) ∧ Below w.heap.size w w' := by
 have hE' : ∀ cs W, inC w ∈ cs → All cs W → En W := fun cs W hm hW => hE.later (hW.into hm)
 obtain ⟨e1, I1, D1, i1, d1, r1⟩ := line_is l
 obtain ⟨e2, I2, D2, i2, d2, r2⟩ := line_is o
 have P1 : Hid (∀ cs W, inC w ∈ cs → All cs W → Calls Tryz.prog 14 #[.string ⟨l.toArray⟩] W (Rdg e1 I1 D1 (rlErr l) cs)) := hid (fun cs W hm hW => (ReadLine_any (fun V hV => hE' cs V hm hV) hl (line_ok l) hW).mono (r1 cs))
 have P2 : Hid (∀ cs W, inC w ∈ cs → All cs W → Calls Tryz.prog 14 #[.string ⟨o.toArray⟩] W (Rdg e2 I2 D2 (rlErr o) cs)) := hid (fun cs W hm hW => (ReadLine_any (fun V hV => hE' cs V hm hV) ho (line_ok o) hW).mono (r2 cs))
 have Q1 : Hid (∀ cs W, All cs W → Calls Tryz.prog 15 #[.string ⟨l.toArray⟩] W (Rdg e1 I1 D1 (rlErr l) cs)) := hid (fun cs W hW => (rReadLine_any hl (line_ok l) hW).mono (r1 cs))
 have Q2 : Hid (∀ cs W, All cs W → Calls Tryz.prog 15 #[.string ⟨o.toArray⟩] W (Rdg e2 I2 D2 (rlErr o) cs)) := hid (fun cs W hW => (rReadLine_any ho (line_ok o) hW).mono (r2 cs))
 have CS := hid (shown_any (cs := [inC w]) (fun W hW => hE' _ W List.mem_cons_self hW) (All.came w))
 have K1 := hid (kit_of e1 i1 d1)
 have K2 := hid (kit_of e2 i2 d2)
 clear r1 r2 hE' hE hl ho i1 i2 d1 d2
 unfold Rdg at P1 P2 Q1 Q2
 generalize e1.cells2 = F1 at *
 generalize e2.cells2 = F2 at *
 generalize rlErr l = X1 at *
 generalize rlErr o = X2 at *
 generalize ByteArray.mk l.toArray = L1 at *
 generalize ByteArray.mk o.toArray = L2 at *
 have t1 : (X1 == X1) = true := by simp
 have t2 : (X2 == X2) = true := by simp
 have t3 : (X1 != X1) = false := by simp
 have t4 : (X2 != X2) = false := by simp
 go_enter Tryz.func4, Tryz.ntmps4
 go_upto_region 3 with (go_at_call 9; refine CS.out.mono ?_; rintro r w1 ⟨rfl, B1⟩; have K := hid B1; clear B1)
 go_upto_region 4 with (first | (go_at_call 14; refine (P1.out _ _ (by simp) K.out).mono ?_; rintro r w2 ⟨ra1, rc1, da1, dc1, rfl, B⟩; clear K; have K := hid B; clear B) | (refine wpList_store_row rfl 36 _ _ rfl w2.heap.size (F1 (.slice ra1 I1.length rc1) (.slice da1 D1.length dc1)).toArray rfl rfl 36 _ (heap_alloc_new w2 _) (K1.out.sz ra1 I1.length rc1 da1 D1.length dc1) (K1.out.z ra1 I1.length rc1 da1 D1.length dc1) (K1.out.one ra1 I1.length rc1 da1 D1.length dc1) ?_; rw [World.setRow_alloc_new]))
 have KN := hid (K.out.addBlk (F1 (.slice ra1 I1.length rc1) (.slice da1 D1.length dc1)) 36)
 clear K
 have K := KN
 clear KN
 generalize w2.alloc (.cells (F1 (.slice ra1 I1.length rc1) (.slice da1 D1.length dc1)).toArray 36) = w3 at *
 go_upto_region 5 with (first | (go_at_call 14; refine (P2.out _ _ (by simp) K.out).mono ?_; rintro r w4 ⟨ra2, rc2, da2, dc2, rfl, B⟩; clear K; have K := hid B; clear B) | (refine wpList_store_row rfl 36 _ _ rfl w4.heap.size (F2 (.slice ra2 I2.length rc2) (.slice da2 D2.length dc2)).toArray rfl rfl 36 _ (heap_alloc_new w4 _) (K2.out.sz ra2 I2.length rc2 da2 D2.length dc2) (K2.out.z ra2 I2.length rc2 da2 D2.length dc2) (K2.out.one ra2 I2.length rc2 da2 D2.length dc2) ?_; rw [World.setRow_alloc_new]))
 have KN := hid (K.out.addBlk (F2 (.slice ra2 I2.length rc2) (.slice da2 D2.length dc2)) 36)
 clear K
 have K := KN
 clear KN
 generalize w4.alloc (.cells (F2 (.slice ra2 I2.length rc2) (.slice da2 D2.length dc2)).toArray 36) = w5 at *
 go_upto_region 6 with (first | (go_at_call 14; refine (P1.out _ _ (by simp) K.out).mono ?_; rintro r w6 ⟨ra3, rc3, da3, dc3, rfl, B⟩; clear K; have K := hid B; clear B) | (refine wpList_store_row rfl 36 _ _ rfl w6.heap.size (F1 (.slice ra3 I1.length rc3) (.slice da3 D1.length dc3)).toArray rfl rfl 36 _ (heap_alloc_new w6 _) (K1.out.sz ra3 I1.length rc3 da3 D1.length dc3) (K1.out.z ra3 I1.length rc3 da3 D1.length dc3) (K1.out.one ra3 I1.length rc3 da3 D1.length dc3) ?_; rw [World.setRow_alloc_new]))
 have KN := hid (K.out.addBlk (F1 (.slice ra3 I1.length rc3) (.slice da3 D1.length dc3)) 36)
 clear K
 have K := KN
 clear KN
 generalize w6.alloc (.cells (F1 (.slice ra3 I1.length rc3) (.slice da3 D1.length dc3)).toArray 36) = w7 at *
 go_upto_region 7 with (first | (go_at_call 15; refine (Q1.out _ _ K.out).mono ?_; rintro r w8 ⟨ra4, rc4, da4, dc4, rfl, B⟩; clear K; have K := hid B; clear B) | (refine wpList_store_row rfl 36 _ _ rfl w8.heap.size (F1 (.slice ra4 I1.length rc4) (.slice da4 D1.length dc4)).toArray rfl rfl 36 _ (heap_alloc_new w8 _) (K1.out.sz ra4 I1.length rc4 da4 D1.length dc4) (K1.out.z ra4 I1.length rc4 da4 D1.length dc4) (K1.out.one ra4 I1.length rc4 da4 D1.length dc4) ?_; rw [World.setRow_alloc_new]))
 have KN := hid (K.out.addBlk (F1 (.slice ra4 I1.length rc4) (.slice da4 D1.length dc4)) 36)
 clear K
 have K := KN
 clear KN
 generalize w8.alloc (.cells (F1 (.slice ra4 I1.length rc4) (.slice da4 D1.length dc4)).toArray 36) = w9 at *
 go_upto_region 8 with (first | (go_at_call 15; refine (Q2.out _ _ K.out).mono ?_; rintro r w10 ⟨ra5, rc5, da5, dc5, rfl, B⟩; clear K; have K := hid B; clear B) | (refine wpList_store_row rfl 36 _ _ rfl w10.heap.size (F2 (.slice ra5 I2.length rc5) (.slice da5 D2.length dc5)).toArray rfl rfl 36 _ (heap_alloc_new w10 _) (K2.out.sz ra5 I2.length rc5 da5 D2.length dc5) (K2.out.z ra5 I2.length rc5 da5 D2.length dc5) (K2.out.one ra5 I2.length rc5 da5 D2.length dc5) ?_; rw [World.setRow_alloc_new]))
 have KN := hid (K.out.addBlk (F2 (.slice ra5 I2.length rc5) (.slice da5 D2.length dc5)) 36)
 clear K
 have K := KN
 clear KN
 generalize w10.alloc (.cells (F2 (.slice ra5 I2.length rc5) (.slice da5 D2.length dc5)).toArray 36) = w11 at *
 have S14 : Hid (∀ cs W, All cs W → ownC 9 (.slice ra1 I1.length rc1) (txW I1) ∈ cs → ownC 5 (.slice da1 D1.length dc1) (cellsB D1) ∈ cs → ownC 9 (.slice ra4 I1.length rc4) (txW I1) ∈ cs → ownC 5 (.slice da4 D1.length dc4) (cellsB D1) ∈ cs → Calls Tryz.prog 13 #[.agg (F1 (.slice ra1 I1.length rc1) (.slice da1 D1.length dc1)).toArray, .agg (F1 (.slice ra4 I1.length rc4) (.slice da4 D1.length dc4)).toArray] W fun r w' => r = .returned (.bool true) ∧ All cs w') := hid (fun cs W h h1 h2 h3 h4 => K1.out.same _ _ _ _ _ _ _ _ cs W h h1 h2 h3 h4)
 have S25 : Hid (∀ cs W, All cs W → ownC 9 (.slice ra2 I2.length rc2) (txW I2) ∈ cs → ownC 5 (.slice da2 D2.length dc2) (cellsB D2) ∈ cs → ownC 9 (.slice ra5 I2.length rc5) (txW I2) ∈ cs → ownC 5 (.slice da5 D2.length dc5) (cellsB D2) ∈ cs → Calls Tryz.prog 13 #[.agg (F2 (.slice ra2 I2.length rc2) (.slice da2 D2.length dc2)).toArray, .agg (F2 (.slice ra5 I2.length rc5) (.slice da5 D2.length dc5)).toArray] W fun r w' => r = .returned (.bool true) ∧ All cs w') := hid (fun cs W h h1 h2 h3 h4 => K2.out.same _ _ _ _ _ _ _ _ cs W h h1 h2 h3 h4)
 have S34 : Hid (∀ cs W, All cs W → ownC 9 (.slice ra3 I1.length rc3) (txW I1) ∈ cs → ownC 5 (.slice da3 D1.length dc3) (cellsB D1) ∈ cs → ownC 9 (.slice ra4 I1.length rc4) (txW I1) ∈ cs → ownC 5 (.slice da4 D1.length dc4) (cellsB D1) ∈ cs → Calls Tryz.prog 13 #[.agg (F1 (.slice ra3 I1.length rc3) (.slice da3 D1.length dc3)).toArray, .agg (F1 (.slice ra4 I1.length rc4) (.slice da4 D1.length dc4)).toArray] W fun r w' => r = .returned (.bool true) ∧ All cs w') := hid (fun cs W h h1 h2 h3 h4 => K1.out.same _ _ _ _ _ _ _ _ cs W h h1 h2 h3 h4)
 have T1 : Hid (∀ cs W, All (ownC 9 (.slice ra1 I1.length rc1) (txW I1) :: ownC 5 (.slice da1 D1.length dc1) (cellsB D1) :: cs) W → Calls Tryz.prog 16 #[.slice (some ⟨W.heap.size + 1, 0, none⟩) 1 1] ((W.alloc (.cells (F1 (.slice ra1 I1.length rc1) (.slice da1 D1.length dc1)).toArray 36)).alloc (.cells #[.slice (some ⟨W.heap.size, 0, none⟩) 1 1] 42)) fun r w' => r = .returned (.bool true) ∧ All cs w') := hid (fun cs W h => by
   have h2 := (h.addBlk (F1 (.slice ra1 I1.length rc1) (.slice da1 D1.length dc1)) 36).addBlk [.slice (some ⟨W.heap.size, 0, none⟩) 1 1] 42
   rw [szQ W (.cells (F1 (.slice ra1 I1.length rc1) (.slice da1 D1.length dc1)).toArray 36)] at h2
   exact K1.out.spo _ _ _ _ _ _ cs _ h2)
 obtain ⟨ie1, z1, bs1⟩ := K1.out.bs ra1 I1.length rc1 da1 D1.length dc1
 have BS1 := hid bs1
 clear bs1
 have T2 : Hid (∀ cs W, All (ownC 9 (.slice ra2 I2.length rc2) (txW I2) :: ownC 5 (.slice da2 D2.length dc2) (cellsB D2) :: cs) W → Calls Tryz.prog 16 #[.slice (some ⟨W.heap.size + 1, 0, none⟩) 1 1] ((W.alloc (.cells (F2 (.slice ra2 I2.length rc2) (.slice da2 D2.length dc2)).toArray 36)).alloc (.cells #[.slice (some ⟨W.heap.size, 0, none⟩) 1 1] 42)) fun r w' => r = .returned (.bool true) ∧ All cs w') := hid (fun cs W h => by
   have h2 := (h.addBlk (F2 (.slice ra2 I2.length rc2) (.slice da2 D2.length dc2)) 36).addBlk [.slice (some ⟨W.heap.size, 0, none⟩) 1 1] 42
   rw [szQ W (.cells (F2 (.slice ra2 I2.length rc2) (.slice da2 D2.length dc2)).toArray 36)] at h2
   exact K2.out.spo _ _ _ _ _ _ cs _ h2)
 obtain ⟨ie2, z2, bs2⟩ := K2.out.bs ra2 I2.length rc2 da2 D2.length dc2
 have BS2 := hid bs2
 clear bs2
 have J1 := hid (K1.out.sz ra1 I1.length rc1 da1 D1.length dc1)
 have J2 := hid (K2.out.sz ra2 I2.length rc2 da2 D2.length dc2)
 have J3 := hid (K1.out.sz ra3 I1.length rc3 da3 D1.length dc3)
 have J4 := hid (K1.out.sz ra4 I1.length rc4 da4 D1.length dc4)
 have J5 := hid (K2.out.sz ra5 I2.length rc5 da5 D2.length dc5)
 generalize hE1 : F1 (.slice ra1 I1.length rc1) (.slice da1 D1.length dc1) = E1 at *
 clear hE1
 generalize hE2 : F2 (.slice ra2 I2.length rc2) (.slice da2 D2.length dc2) = E2 at *
 clear hE2
 generalize hE3 : F1 (.slice ra3 I1.length rc3) (.slice da3 D1.length dc3) = E3 at *
 clear hE3
 generalize hE4 : F1 (.slice ra4 I1.length rc4) (.slice da4 D1.length dc4) = E4 at *
 clear hE4
 generalize hE5 : F2 (.slice ra5 I2.length rc5) (.slice da5 D2.length dc5) = E5 at *
 clear hE5
 clear P1 P2 Q1 Q2 K1 K2 CS
 replace K := hid (K.out.pull 11 (by simp))
 simp only [List.getElem_cons_succ, List.getElem_cons_zero, List.eraseIdx_cons_succ, List.eraseIdx_cons_zero] at K
 replace K := hid (K.out.pull 11 (by simp))
 simp only [List.getElem_cons_succ, List.getElem_cons_zero, List.eraseIdx_cons_succ, List.eraseIdx_cons_zero] at K
 replace K := hid (K.out.pull 14 (by simp))
 simp only [List.getElem_cons_succ, List.getElem_cons_zero, List.eraseIdx_cons_succ, List.eraseIdx_cons_zero] at K
 replace K := hid (K.out.pull 14 (by simp))
 simp only [List.getElem_cons_succ, List.getElem_cons_zero, List.eraseIdx_cons_succ, List.eraseIdx_cons_zero] at K
 obtain ⟨Z2, hZ2⟩ : ∃ Z, Hid (Z = blkC w10.heap.size (E5) 36 :: ownC 9 (.slice ra5 I2.length rc5) (txW I2) :: ownC 5 (.slice da5 D2.length dc5) (cellsB D2) :: blkC w8.heap.size (E4) 36 :: ownC 9 (.slice ra4 I1.length rc4) (txW I1) :: ownC 5 (.slice da4 D1.length dc4) (cellsB D1) :: blkC w6.heap.size (E3) 36 :: ownC 9 (.slice ra3 I1.length rc3) (txW I1) :: ownC 5 (.slice da3 D1.length dc3) (cellsB D1) :: blkC w4.heap.size (E2) 36 :: blkC w2.heap.size (E1) 36 :: [inC w]) := ⟨_, hid rfl⟩
 have M2 : Hid (inC w ∈ Z2 ∧ ownC 9 (.slice ra3 I1.length rc3) (txW I1) ∈ Z2 ∧ ownC 5 (.slice da3 D1.length dc3) (cellsB D1) ∈ Z2 ∧ ownC 9 (.slice ra4 I1.length rc4) (txW I1) ∈ Z2 ∧ ownC 5 (.slice da4 D1.length dc4) (cellsB D1) ∈ Z2 ∧ ownC 9 (.slice ra5 I2.length rc5) (txW I2) ∈ Z2 ∧ ownC 5 (.slice da5 D2.length dc5) (cellsB D2) ∈ Z2) := hid (by rw [hZ2.out]; simp)
 have N2 : Hid (blkC w2.heap.size E1 36 ∈ Z2 ∧ blkC w4.heap.size E2 36 ∈ Z2 ∧ blkC w6.heap.size E3 36 ∈ Z2 ∧ blkC w8.heap.size E4 36 ∈ Z2 ∧ blkC w10.heap.size E5 36 ∈ Z2) := hid (by rw [hZ2.out]; simp)
 rw [← hZ2.out] at K
 clear hZ2
 have HB1 : Hid (∀ cs W, All cs W → (∀ c ∈ Z2, c ∈ cs) → W.heap[w2.heap.size]? = some (.cells E1.toArray 36 (0, 0))) := hid (fun cs W h hs => h.blk (hs _ N2.out.1))
 generalize w2.heap.size = H1 at *
 have HB2 : Hid (∀ cs W, All cs W → (∀ c ∈ Z2, c ∈ cs) → W.heap[w4.heap.size]? = some (.cells E2.toArray 36 (0, 0))) := hid (fun cs W h hs => h.blk (hs _ N2.out.2.1))
 generalize w4.heap.size = H2 at *
 have HB3 : Hid (∀ cs W, All cs W → (∀ c ∈ Z2, c ∈ cs) → W.heap[w6.heap.size]? = some (.cells E3.toArray 36 (0, 0))) := hid (fun cs W h hs => h.blk (hs _ N2.out.2.2.1))
 generalize w6.heap.size = H3 at *
 have HB4 : Hid (∀ cs W, All cs W → (∀ c ∈ Z2, c ∈ cs) → W.heap[w8.heap.size]? = some (.cells E4.toArray 36 (0, 0))) := hid (fun cs W h hs => h.blk (hs _ N2.out.2.2.2.1))
 generalize w8.heap.size = H4 at *
 have HB5 : Hid (∀ cs W, All cs W → (∀ c ∈ Z2, c ∈ cs) → W.heap[w10.heap.size]? = some (.cells E5.toArray 36 (0, 0))) := hid (fun cs W h hs => h.blk (hs _ N2.out.2.2.2.2))
 generalize w10.heap.size = H5 at *
 clear N2
 have C14 : Hid (∀ W, All (ownC 9 (.slice ra1 I1.length rc1) (txW I1) :: ownC 5 (.slice da1 D1.length dc1) (cellsB D1) :: ownC 9 (.slice ra2 I2.length rc2) (txW I2) :: ownC 5 (.slice da2 D2.length dc2) (cellsB D2) :: Z2) W → Calls Tryz.prog 13 #[.agg E1.toArray, .agg E4.toArray] W fun r w' => r = .returned (.bool true) ∧ All (ownC 9 (.slice ra1 I1.length rc1) (txW I1) :: ownC 5 (.slice da1 D1.length dc1) (cellsB D1) :: ownC 9 (.slice ra2 I2.length rc2) (txW I2) :: ownC 5 (.slice da2 D2.length dc2) (cellsB D2) :: Z2) w') := hid (fun W h => S14.out _ W h (by simp) (by simp) (List.mem_cons_of_mem _ (List.mem_cons_of_mem _ (List.mem_cons_of_mem _ (List.mem_cons_of_mem _ M2.out.2.2.2.1)))) (List.mem_cons_of_mem _ (List.mem_cons_of_mem _ (List.mem_cons_of_mem _ (List.mem_cons_of_mem _ M2.out.2.2.2.2.1)))))
 have C25 : Hid (∀ W, All (ownC 9 (.slice ra1 I1.length rc1) (txW I1) :: ownC 5 (.slice da1 D1.length dc1) (cellsB D1) :: ownC 9 (.slice ra2 I2.length rc2) (txW I2) :: ownC 5 (.slice da2 D2.length dc2) (cellsB D2) :: Z2) W → Calls Tryz.prog 13 #[.agg E2.toArray, .agg E5.toArray] W fun r w' => r = .returned (.bool true) ∧ All (ownC 9 (.slice ra1 I1.length rc1) (txW I1) :: ownC 5 (.slice da1 D1.length dc1) (cellsB D1) :: ownC 9 (.slice ra2 I2.length rc2) (txW I2) :: ownC 5 (.slice da2 D2.length dc2) (cellsB D2) :: Z2) w') := hid (fun W h => S25.out _ W h (by simp) (by simp) (List.mem_cons_of_mem _ (List.mem_cons_of_mem _ (List.mem_cons_of_mem _ (List.mem_cons_of_mem _ M2.out.2.2.2.2.2.1)))) (List.mem_cons_of_mem _ (List.mem_cons_of_mem _ (List.mem_cons_of_mem _ (List.mem_cons_of_mem _ M2.out.2.2.2.2.2.2)))))
 have C34 : Hid (∀ W, All (ownC 9 (.slice ra1 I1.length rc1) (txW I1) :: ownC 5 (.slice da1 D1.length dc1) (cellsB D1) :: ownC 9 (.slice ra2 I2.length rc2) (txW I2) :: ownC 5 (.slice da2 D2.length dc2) (cellsB D2) :: Z2) W → Calls Tryz.prog 13 #[.agg E3.toArray, .agg E4.toArray] W fun r w' => r = .returned (.bool true) ∧ All (ownC 9 (.slice ra1 I1.length rc1) (txW I1) :: ownC 5 (.slice da1 D1.length dc1) (cellsB D1) :: ownC 9 (.slice ra2 I2.length rc2) (txW I2) :: ownC 5 (.slice da2 D2.length dc2) (cellsB D2) :: Z2) w') := hid (fun W h => S34.out _ W h (List.mem_cons_of_mem _ (List.mem_cons_of_mem _ (List.mem_cons_of_mem _ (List.mem_cons_of_mem _ M2.out.2.1)))) (List.mem_cons_of_mem _ (List.mem_cons_of_mem _ (List.mem_cons_of_mem _ (List.mem_cons_of_mem _ M2.out.2.2.1)))) (List.mem_cons_of_mem _ (List.mem_cons_of_mem _ (List.mem_cons_of_mem _ (List.mem_cons_of_mem _ M2.out.2.2.2.1)))) (List.mem_cons_of_mem _ (List.mem_cons_of_mem _ (List.mem_cons_of_mem _ (List.mem_cons_of_mem _ M2.out.2.2.2.2.1)))))
 have D25 : Hid (∀ W, All (ownC 9 (.slice ra2 I2.length rc2) (txW I2) :: ownC 5 (.slice da2 D2.length dc2) (cellsB D2) :: Z2) W → Calls Tryz.prog 13 #[.agg E2.toArray, .agg E5.toArray] W fun r w' => r = .returned (.bool true) ∧ All (ownC 9 (.slice ra2 I2.length rc2) (txW I2) :: ownC 5 (.slice da2 D2.length dc2) (cellsB D2) :: Z2) w') := hid (fun W h => S25.out _ W h (by simp) (by simp) (List.mem_cons_of_mem _ (List.mem_cons_of_mem _ M2.out.2.2.2.2.2.1)) (List.mem_cons_of_mem _ (List.mem_cons_of_mem _ M2.out.2.2.2.2.2.2)))
 have D34 : Hid (∀ W, All (ownC 9 (.slice ra2 I2.length rc2) (txW I2) :: ownC 5 (.slice da2 D2.length dc2) (cellsB D2) :: Z2) W → Calls Tryz.prog 13 #[.agg E3.toArray, .agg E4.toArray] W fun r w' => r = .returned (.bool true) ∧ All (ownC 9 (.slice ra2 I2.length rc2) (txW I2) :: ownC 5 (.slice da2 D2.length dc2) (cellsB D2) :: Z2) w') := hid (fun W h => S34.out _ W h (List.mem_cons_of_mem _ (List.mem_cons_of_mem _ M2.out.2.1)) (List.mem_cons_of_mem _ (List.mem_cons_of_mem _ M2.out.2.2.1)) (List.mem_cons_of_mem _ (List.mem_cons_of_mem _ M2.out.2.2.2.1)) (List.mem_cons_of_mem _ (List.mem_cons_of_mem _ M2.out.2.2.2.2.1)))
 have G34 : Hid (∀ W, All Z2 W → Calls Tryz.prog 13 #[.agg E3.toArray, .agg E4.toArray] W fun r w' => r = .returned (.bool true) ∧ All Z2 w') := hid (fun W h => S34.out _ W h M2.out.2.1 M2.out.2.2.1 M2.out.2.2.2.1 M2.out.2.2.2.2.1)
 have U1 := hid (T1.out (ownC 9 (.slice ra2 I2.length rc2) (txW I2) :: ownC 5 (.slice da2 D2.length dc2) (cellsB D2) :: Z2))
 have U2 := hid (T2.out Z2)
 have FIN := hid (fun W (h : All Z2 W) => h.into M2.out.1)
 clear S14 S25 S34 T1 T2 M2
 generalize ownC 9 (.slice ra1 I1.length rc1) (txW I1) = a9 at *
 generalize ownC 5 (.slice da1 D1.length dc1) (cellsB D1) = a5 at *
 generalize ownC 9 (.slice ra2 I2.length rc2) (txW I2) = b9 at *
 generalize ownC 5 (.slice da2 D2.length dc2) (cellsB D2) = b5 at *
 have R0 : Hid (∀ c ∈ Z2, c ∈ a9 :: a5 :: b9 :: b5 :: Z2) := hid (fun c hc => by simp [hc])
 have R1 : Hid (∀ c ∈ Z2, c ∈ b9 :: b5 :: Z2) := hid (fun c hc => by simp [hc])
 have R2 : Hid (∀ c ∈ Z2, c ∈ Z2) := hid (fun c hc => hc)
 go_wp2_with (first | (refine wpList_step (fun K0 hK => ?_); rw [if_pos (by rfl)]; refine wp_load_row 36 _ rfl H1 rfl 36 E1.toArray (0, 0) _ (HB1.out _ _ K.out R0.out) Tryz.underlying36 rfl J1.out (hK _ _ ?_); clear hK K0) | (refine wpList_step (fun K0 hK => ?_); rw [if_pos (by rfl)]; refine wp_load_row 36 _ rfl H4 rfl 36 E4.toArray (0, 0) _ (HB4.out _ _ K.out R0.out) Tryz.underlying36 rfl J4.out (hK _ _ ?_); clear hK K0) | (go_at_call 13; refine (C14.out _ K.out).mono ?_; rintro r w12 ⟨rfl, B⟩; clear K; have K := hid B; clear B; refine Hid.out ?_))
 refine hid ?_
 go_wp2_with (first | (refine wpList_step (fun K0 hK => ?_); rw [if_pos (by rfl)]; refine wp_load_row 36 _ rfl H2 rfl 36 E2.toArray (0, 0) _ (HB2.out _ _ K.out R0.out) Tryz.underlying36 rfl J2.out (hK _ _ ?_); clear hK K0) | (refine wpList_step (fun K0 hK => ?_); rw [if_pos (by rfl)]; refine wp_load_row 36 _ rfl H5 rfl 36 E5.toArray (0, 0) _ (HB5.out _ _ K.out R0.out) Tryz.underlying36 rfl J5.out (hK _ _ ?_); clear hK K0) | (go_at_call 13; refine (C25.out _ K.out).mono ?_; rintro r w13 ⟨rfl, B⟩; clear K; have K := hid B; clear B; refine Hid.out ?_))
 refine hid ?_
 go_wp2_with (first | (refine wpList_step (fun K0 hK => ?_); rw [if_pos (by rfl)]; refine wp_load_row 36 _ rfl H3 rfl 36 E3.toArray (0, 0) _ (HB3.out _ _ K.out R0.out) Tryz.underlying36 rfl J3.out (hK _ _ ?_); clear hK K0) | (refine wpList_step (fun K0 hK => ?_); rw [if_pos (by rfl)]; refine wp_load_row 36 _ rfl H4 rfl 36 E4.toArray (0, 0) _ (HB4.out _ _ K.out R0.out) Tryz.underlying36 rfl J4.out (hK _ _ ?_); clear hK K0) | (go_at_call 13; refine (C34.out _ K.out).mono ?_; rintro r w14 ⟨rfl, B⟩; clear K; have K := hid B; clear B; refine Hid.out ?_))
 refine hid ?_
 go_upto_region 10 with fail
 go_wp2_with (first | (refine wpList_load_row rfl 36 _ rfl H1 rfl 36 E1.toArray (0, 0) _ (HB1.out _ _ K.out R0.out) Tryz.underlying36 rfl J1.out ?_) | (refine wpList_buildSlice rfl 42 36 1 _ rfl E1.toArray ie1 z1 und42 BS1.out.i BS1.out.o BS1.out.s BS1.out.p (fill_of BS1.out.f (by kernel_rfl)) ?_) | (go_at_call 16; refine (U1.out _ K.out).mono ?_; rintro r w15 ⟨rfl, B⟩; clear K; have K := hid B; clear B; refine Hid.out ?_))
 refine hid ?_
 go_wp2_with (first | (refine wpList_step (fun K0 hK => ?_); rw [if_pos (by rfl)]; refine wp_load_row 36 _ rfl H2 rfl 36 E2.toArray (0, 0) _ (HB2.out _ _ K.out R1.out) Tryz.underlying36 rfl J2.out (hK _ _ ?_); clear hK K0) | (refine wpList_step (fun K0 hK => ?_); rw [if_pos (by rfl)]; refine wp_load_row 36 _ rfl H5 rfl 36 E5.toArray (0, 0) _ (HB5.out _ _ K.out R1.out) Tryz.underlying36 rfl J5.out (hK _ _ ?_); clear hK K0) | (go_at_call 13; refine (D25.out _ K.out).mono ?_; rintro r w16 ⟨rfl, B⟩; clear K; have K := hid B; clear B; refine Hid.out ?_))
 refine hid ?_
 go_wp2_with (first | (refine wpList_step (fun K0 hK => ?_); rw [if_pos (by rfl)]; refine wp_load_row 36 _ rfl H3 rfl 36 E3.toArray (0, 0) _ (HB3.out _ _ K.out R1.out) Tryz.underlying36 rfl J3.out (hK _ _ ?_); clear hK K0) | (refine wpList_step (fun K0 hK => ?_); rw [if_pos (by rfl)]; refine wp_load_row 36 _ rfl H4 rfl 36 E4.toArray (0, 0) _ (HB4.out _ _ K.out R1.out) Tryz.underlying36 rfl J4.out (hK _ _ ?_); clear hK K0) | (go_at_call 13; refine (D34.out _ K.out).mono ?_; rintro r w17 ⟨rfl, B⟩; clear K; have K := hid B; clear B; refine Hid.out ?_))
 refine hid ?_
 go_wp2_with (first | (refine wpList_step (fun K0 hK => ?_); rw [if_pos (by rfl)]; refine wp_load_row 36 _ rfl H2 rfl 36 E2.toArray (0, 0) _ (HB2.out _ _ K.out R1.out) Tryz.underlying36 rfl J2.out (hK _ _ ?_); clear hK K0) | (refine wpList_step (fun K0 hK => ?_); rw [if_pos (by rfl)]; refine wp_buildSlice 42 36 1 _ rfl E2.toArray ie2 z2 und42 BS2.out.i BS2.out.o BS2.out.s BS2.out.p (fill_of BS2.out.f (by kernel_rfl)) (hK _ _ ?_); clear hK K0) | (go_at_call 16; refine (U2.out _ K.out).mono ?_; rintro r w18 ⟨rfl, B⟩; clear K; have K := hid B; clear B; refine Hid.out ?_))
 refine hid ?_
 go_wp2_with (first | (refine wpList_step (fun K0 hK => ?_); rw [if_pos (by rfl)]; refine wp_load_row 36 _ rfl H3 rfl 36 E3.toArray (0, 0) _ (HB3.out _ _ K.out R2.out) Tryz.underlying36 rfl J3.out (hK _ _ ?_); clear hK K0) | (refine wpList_step (fun K0 hK => ?_); rw [if_pos (by rfl)]; refine wp_load_row 36 _ rfl H4 rfl 36 E4.toArray (0, 0) _ (HB4.out _ _ K.out R2.out) Tryz.underlying36 rfl J4.out (hK _ _ ?_); clear hK K0) | (go_at_call 13; refine (G34.out _ K.out).mono ?_; rintro r w19 ⟨rfl, B⟩; clear K; have K := hid B; clear B; refine Hid.out ?_))
 refine hid ?_
 go_wp2_with fail
 go_ret
 exact ⟨rfl, FIN.out _ K.out⟩
end Go.Proofs.YtfeppannfcbakaaGreatDoor

namespace Go.Proofs.YtfeppannfcbakaaGreatDoor
open Go.ChangeShapes Go.WideShapes Go.ChangeAt Go.RowKit Go.Deep Go.Joins
set_option linter.unusedVariables false
theorem Tryz.own : ownKnob Tryz.prog.godebug = none := by kernel_rfl
theorem Tryz.laidOut : laidOutB Tryz.prog = true := by kernel_rfl
theorem Tryz.gES : Tryz.prog.globalNamed "strconv.ErrSyntax" = some 9 := by kernel_rfl
theorem Tryz.gEST : (Tryz.prog.globals[9]?).map (·.type) = some 108 := by kernel_rfl
theorem Tryz.gER : Tryz.prog.globalNamed "strconv.ErrRange" = some 10 := by kernel_rfl
theorem Tryz.gERT : (Tryz.prog.globals[10]?).map (·.type) = some 108 := by kernel_rfl
theorem Tryz.gPW : Tryz.prog.globalNamed "internal/strconv.uint64pow10" = some 5 := by kernel_rfl
theorem Tryz.gPWT : (Tryz.prog.globals[5]?).map (·.type) = some 204 := by kernel_rfl
theorem Tryz.cellsES : Tryz.prog.cellsOf 235 = 1 := by kernel_rfl
theorem Tryz.cells9 : Tryz.prog.cellsOf 9 = 1 := by kernel_rfl
theorem Tryz.star : "*" ++ "errors.errorString" = "*errors.errorString" := by decide
theorem Tryz.rowES (u : TypeId) (h : Tryz.prog.typeName? 3 u = some "*errors.errorString") : u = 233 :=
 typeName_ptr_named (nm := "errors.errorString") (by rw [Tryz.star]; kernel_rfl) (by kernel_rfl) (by decide) u (by rw [Tryz.star]; exact h)
theorem vars_of_laid {a b : String × DataW Unit} {r : List (String × DataW Unit)} {W : World} (h : laidMet Tryz.prog (a :: b :: ("internal/strconv.uint64pow10", Rows.laid_internal_strconv_uint64pow10) :: ("strconv.ErrRange", Rows.laid_strconv_ErrRange) :: ("strconv.ErrSyntax", Rows.laid_strconv_ErrSyntax) :: r) W) : Vars W := by
 have h1 := h.tail.tail
 obtain ⟨a1, s1, v1, _⟩ := laid_sentinel h1.tail Tryz.gER Tryz.gERT Tryz.underlying108 Tryz.rowES Tryz.underlying233 Tryz.underlying235 rfl rfl Tryz.underlying9 Tryz.cellsES Tryz.cells9
 obtain ⟨a2, s2, v2, _⟩ := laid_sentinel h1.tail.tail Tryz.gES Tryz.gEST Tryz.underlying108 Tryz.rowES Tryz.underlying233 Tryz.underlying235 rfl rfl Tryz.underlying9 Tryz.cellsES Tryz.cells9
 exact ⟨⟨_, _, v2⟩, ⟨_, _, v1⟩, Lib.tabIs_of_head (n := 20) (e := 189) Tryz.gPW Tryz.gPWT Tryz.underlying204 Tryz.underlying189 (by kernel_rfl) (by kernel_rfl) h1⟩
def deB32 : List Int := [0, 1, 28, 2, 29, 14, 24, 3, 30, 22, 20, 15, 25, 17, 4, 8, 31, 27, 13, 23, 21, 19, 16, 7, 26, 12, 18, 6, 11, 5, 10, 9]
def deB64 : List Int := [0, 1, 56, 2, 57, 49, 28, 3, 61, 58, 42, 50, 38, 29, 17, 4, 62, 47, 59, 36, 45, 43, 51, 22, 53, 39, 33, 30, 24, 18, 12, 5, 63, 55, 48, 27, 60, 41, 37, 16, 46, 35, 44, 21, 52, 32, 23, 11, 54, 26, 40, 15, 34, 20, 31, 10, 25, 14, 19, 9, 13, 8, 7, 6]
noncomputable def low : Nat := (World.holding Tryz.prog default ⟨#[], #[], []⟩).heap.size
def accN : List Int := [128, 191, 160, 191, 128, 159, 144, 191, 128, 143, 0, 0, 0, 0, 0, 0, 0, 0, 0, 0, 0, 0, 0, 0, 0, 0, 0, 0, 0, 0, 0, 0]
noncomputable def laidWorld (os : Os) : World :=
 let w0 := World.holding Tryz.prog os ⟨#[.cells #[.string ⟨#[105, 110, 118, 97, 108, 105, 100, 32, 115, 121, 110, 116, 97, 120]⟩] 235, .cells #[.string ⟨#[118, 97, 108, 117, 101, 32, 111, 117, 116, 32, 111, 102, 32, 114, 97, 110, 103, 101]⟩] 235], #[], []⟩
 { w0 with heap := ((((((((((((w0.heap.modify 9 fun
     | .cells _ t frozen => .cells #[.iface 233 (.pointer (some ⟨low, 0, none⟩))] t frozen
     | o => o).modify 10 fun
     | .cells _ t frozen => .cells #[.iface 233 (.pointer (some ⟨low + 1, 0, none⟩))] t frozen
     | o => o).modify 5 fun
     | .cells _ t frozen => .cells (Lib.pow10Tab.map fun z : Int => Value.int .u64 z).toArray t frozen
     | o => o).modify 11 fun
     | .cells _ t frozen => .cells (deB32.map fun z : Int => Value.int .u8 z).toArray t frozen
     | o => o).modify 12 fun
     | .cells _ t frozen => .cells (deB64.map fun z : Int => Value.int .u8 z).toArray t frozen
     | o => o).modify 4 fun
     | .cells _ t frozen => .cells (formN.map fun n : Int => Value.int .i64 n).toArray t frozen
     | o => o).modify 2 fun
     | .cells _ t frozen => .cells (wfN.flatMap fun p => [Value.string ⟨p.1.toArray⟩, Value.string ⟨p.2.toArray⟩]).toArray t frozen
     | o => o).modify 3 fun
     | .cells _ t frozen => .cells (cdN.map fun p => Value.string ⟨p.toArray⟩).toArray t frozen
     | o => o).modify 0 fun
     | .cells _ t frozen => .cells (kdN.map fun p => Value.string ⟨p.toArray⟩).toArray t frozen
     | o => o).modify 1 fun
     | .cells _ t frozen => .cells (stN.map fun p => Value.string ⟨p.toArray⟩).toArray t frozen
     | o => o).modify 7 fun
     | .cells _ t frozen => .cells (accN.map fun z : Int => Value.int .u8 z).toArray t frozen
     | o => o).modify 6 fun
     | .cells _ t frozen => .cells (Go.Pinned.utf8FirstZ.map fun z : Nat => Value.int .u8 (z : Int)).toArray t frozen
     | o => o) }
end Go.Proofs.YtfeppannfcbakaaGreatDoor

namespace Go.Proofs.YtfeppannfcbakaaGreatDoor
open Go.ChangeShapes Go.WideShapes Go.ChangeAt Go.RowKit Go.Deep Go.Joins
set_option linter.unusedVariables false
set_option maxRecDepth 100000
theorem Tryz.gTab : Tryz.prog.globalNamed "flotilla/shelf.forms" = some 4 := by kernel_rfl
theorem Tryz.gTabType : (Tryz.prog.globals[4]?).map (·.type) = some 199 := by kernel_rfl
theorem Tryz.cells199 : Tryz.prog.cellsOf 199 = 72 := by kernel_rfl
theorem Tryz.cells198 : Tryz.prog.cellsOf 198 = 8 := by kernel_rfl
theorem Tryz.cells196 : Tryz.prog.cellsOf 196 = 2 := by kernel_rfl
theorem Tryz.cells3 : Tryz.prog.cellsOf 3 = 1 := by kernel_rfl
theorem Tryz.und199 : Tryz.prog.underlying 199 = some (.array 9 198) := by kernel_rfl
theorem map_at {α β : Type} {f : α → β} {xs : List α} {ys : List β} (h : xs.map f = ys) {i : Nat} {d : β} (hd : ys[i]? = some d) : ∃ y, xs[i]? = some y ∧ f y = d := by
 rw [← h, List.getElem?_map, Option.map_eq_some_iff] at hd
 exact hd
section
variable {H : Type} {enc : TypeId × Value → H} {W : World} {base : Nat} {sp : Nat → Bool} {held : Bool} {fuel : Nat} {cs : List Value} {p : List MemPlace}
def spanD (a b : Int) : DataW H := .agg [.lit (.int .i64 a), .lit (.int .i64 b)]
theorem int_cells {n : Nat} {x : DataW H × List MemPlace} {a : Int} (h : DataW.trod enc Tryz.prog W base sp held n 3 cs = some x) (hx : x.1 = .lit (.int .i64 a)) : cs = [.int .i64 a] := by
 obtain ⟨z, e, r, _⟩ := DataW.trod_int Tryz.underlying3 h
 subst r
 simp only [DataW.lit.injEq, Lit.int.injEq, true_and] at hx
 subst hx
 exact e
theorem list2 {l : List Value} {a b : Value} (hl : l.length = 2) (h0 : (l.drop 0).take 1 = [a]) (h1 : (l.drop 1).take 1 = [b]) : l = [a, b] := by
 match l, hl with
 | [x, y], _ => simp at h0 h1; simp [h0, h1]
theorem list8 {l : List Value} {a b c d e f g h : Value} (hl : l.length = 8) (h0 : (l.drop 0).take 2 = [a, b]) (h1 : (l.drop 2).take 2 = [c, d]) (h2 : (l.drop 4).take 2 = [e, f]) (h3 : (l.drop 6).take 2 = [g, h]) : l = [a, b, c, d, e, f, g, h] := by
 match l, hl with
 | [x0, x1, x2, x3, x4, x5, x6, x7], _ => simp at h0 h1 h2 h3; simp [h0, h1, h2, h3]
theorem span_cells {x : DataW H × List MemPlace} {a b : Int} (h : DataW.trod enc Tryz.prog W base sp held fuel 196 cs = some x) (hx : x.1 = spanD a b) : cs = [.int .i64 a, .int .i64 b] := by
 obtain ⟨xs, n, _, hx', hl, hlen, hf⟩ := DataW.trod_struct Tryz.underlying196 h
 subst hx'
 have hx : xs.map (·.1) = [.lit (.int .i64 a), .lit (.int .i64 b)] := by simp only [spanD] at hx; injection hx
 obtain ⟨y0, hy0, e0⟩ := map_at hx (i := 0) rfl
 obtain ⟨y1, hy1, e1⟩ := map_at hx (i := 1) rfl
 have g0 : DataW.trod enc Tryz.prog W base sp held n 3 ((cs.drop 0).take (Tryz.prog.cellsOf 3)) = some y0 := (hf 0 _ rfl).trans hy0
 have g1 : DataW.trod enc Tryz.prog W base sp held n 3 ((cs.drop 1).take (Tryz.prog.cellsOf 3)) = some y1 := (hf 1 _ rfl).trans hy1
 rw [Tryz.cells3] at g0 g1
 rw [Tryz.cells196] at hl
 exact list2 hl (int_cells g0 e0) (int_cells g1 e1)
theorem form_cells {x : DataW H × List MemPlace} {a0 a1 a2 a3 a4 a5 a6 a7 : Int} (h : DataW.trod enc Tryz.prog W base sp held fuel 198 cs = some x) (hx : x.1 = .agg [spanD a0 a1, spanD a2 a3, spanD a4 a5, spanD a6 a7]) : cs = [.int .i64 a0, .int .i64 a1, .int .i64 a2, .int .i64 a3, .int .i64 a4, .int .i64 a5, .int .i64 a6, .int .i64 a7] := by
 obtain ⟨xs, n, _, hx', hl, hlen, hf⟩ := DataW.trod_struct Tryz.underlying198 h
 subst hx'
 have hx : xs.map (·.1) = [spanD a0 a1, spanD a2 a3, spanD a4 a5, spanD a6 a7] := by injection hx
 obtain ⟨y0, hy0, e0⟩ := map_at hx (i := 0) rfl
 obtain ⟨y1, hy1, e1⟩ := map_at hx (i := 1) rfl
 obtain ⟨y2, hy2, e2⟩ := map_at hx (i := 2) rfl
 obtain ⟨y3, hy3, e3⟩ := map_at hx (i := 3) rfl
 have g0 : DataW.trod enc Tryz.prog W base sp held n 196 ((cs.drop 0).take (Tryz.prog.cellsOf 196)) = some y0 := (hf 0 _ rfl).trans hy0
 have g1 : DataW.trod enc Tryz.prog W base sp held n 196 ((cs.drop 2).take (Tryz.prog.cellsOf 196)) = some y1 := (hf 1 _ rfl).trans hy1
 have g2 : DataW.trod enc Tryz.prog W base sp held n 196 ((cs.drop 4).take (Tryz.prog.cellsOf 196)) = some y2 := (hf 2 _ rfl).trans hy2
 have g3 : DataW.trod enc Tryz.prog W base sp held n 196 ((cs.drop 6).take (Tryz.prog.cellsOf 196)) = some y3 := (hf 3 _ rfl).trans hy3
 rw [Tryz.cells196] at g0 g1 g2 g3
 rw [Tryz.cells198] at hl
 exact list8 hl (span_cells g0 e0) (span_cells g1 e1) (span_cells g2 e2) (span_cells g3 e3)
end
theorem tab_of_laid {a b c d e : String × DataW Unit} {r : List (String × DataW Unit)} {W : World} (h : laidMet Tryz.prog (a :: b :: c :: d :: e :: ("flotilla/shelf.forms", Rows.laid_flotilla_shelf_forms) :: r) W) : Tab W := by
 obtain ⟨ps, ⟨g', t', cs, fuel, p, q, hg', ht', hvar, hd, _, _⟩, _⟩ := h.tail.tail.tail.tail.tail
 obtain rfl := Option.some.inj (Tryz.gTab.symm.trans hg')
 obtain rfl := Option.some.inj (Tryz.gTabType.symm.trans ht')
 obtain ⟨xs, m, _, hx, hl, hlen, hf⟩ := DataW.trod_array Tryz.und199 hd
 rw [Tryz.cells199] at hl
 rw [Tryz.cells198] at hf
 have hxs : xs.map (·.1) = [.agg [spanD 0 0, spanD 0 0, spanD 0 0, spanD 0 0], .agg [spanD 1 16, spanD 0 0, spanD 0 0, spanD 0 0], .agg [spanD 1 16, spanD 0 0, spanD 0 0, spanD 0 0], .agg [spanD 1 16, spanD 0 64, spanD 0 0, spanD 0 0], .agg [spanD 1 16, spanD 0 0, spanD 0 1099511627776, spanD 0 0], .agg [spanD 1 16, spanD 1 16, spanD 0 0, spanD 0 0], .agg [spanD 1 16, spanD 0 0, spanD 0 1099511627776, spanD 1 8], .agg [spanD 1 16, spanD 0 0, spanD 0 0, spanD 0 0], .agg [spanD 0 0, spanD 0 0, spanD 0 0, spanD 0 0]] := by
   have := congrArg Prod.fst hx
   have e : (.agg (xs.map (·.1)) : DataW Unit) = Rows.laid_flotilla_shelf_forms := this.symm
   injection e
 obtain ⟨y0, hy0, e0⟩ := map_at hxs (i := 0) rfl
 have c0 : (cs.toList.drop (0 * 8)).take 8 = [Value.int .i64 0, .int .i64 0, .int .i64 0, .int .i64 0, .int .i64 0, .int .i64 0, .int .i64 0, .int .i64 0] := form_cells ((hf 0 (by omega)).trans hy0) e0
 obtain ⟨y1, hy1, e1⟩ := map_at hxs (i := 1) rfl
 have c1 : (cs.toList.drop (1 * 8)).take 8 = [Value.int .i64 1, .int .i64 16, .int .i64 0, .int .i64 0, .int .i64 0, .int .i64 0, .int .i64 0, .int .i64 0] := form_cells ((hf 1 (by omega)).trans hy1) e1
 obtain ⟨y2, hy2, e2⟩ := map_at hxs (i := 2) rfl
 have c2 : (cs.toList.drop (2 * 8)).take 8 = [Value.int .i64 1, .int .i64 16, .int .i64 0, .int .i64 0, .int .i64 0, .int .i64 0, .int .i64 0, .int .i64 0] := form_cells ((hf 2 (by omega)).trans hy2) e2
 obtain ⟨y3, hy3, e3⟩ := map_at hxs (i := 3) rfl
 have c3 : (cs.toList.drop (3 * 8)).take 8 = [Value.int .i64 1, .int .i64 16, .int .i64 0, .int .i64 64, .int .i64 0, .int .i64 0, .int .i64 0, .int .i64 0] := form_cells ((hf 3 (by omega)).trans hy3) e3
 obtain ⟨y4, hy4, e4⟩ := map_at hxs (i := 4) rfl
 have c4 : (cs.toList.drop (4 * 8)).take 8 = [Value.int .i64 1, .int .i64 16, .int .i64 0, .int .i64 0, .int .i64 0, .int .i64 1099511627776, .int .i64 0, .int .i64 0] := form_cells ((hf 4 (by omega)).trans hy4) e4
 obtain ⟨y5, hy5, e5⟩ := map_at hxs (i := 5) rfl
 have c5 : (cs.toList.drop (5 * 8)).take 8 = [Value.int .i64 1, .int .i64 16, .int .i64 1, .int .i64 16, .int .i64 0, .int .i64 0, .int .i64 0, .int .i64 0] := form_cells ((hf 5 (by omega)).trans hy5) e5
 obtain ⟨y6, hy6, e6⟩ := map_at hxs (i := 6) rfl
 have c6 : (cs.toList.drop (6 * 8)).take 8 = [Value.int .i64 1, .int .i64 16, .int .i64 0, .int .i64 0, .int .i64 0, .int .i64 1099511627776, .int .i64 1, .int .i64 8] := form_cells ((hf 6 (by omega)).trans hy6) e6
 obtain ⟨y7, hy7, e7⟩ := map_at hxs (i := 7) rfl
 have c7 : (cs.toList.drop (7 * 8)).take 8 = [Value.int .i64 1, .int .i64 16, .int .i64 0, .int .i64 0, .int .i64 0, .int .i64 0, .int .i64 0, .int .i64 0] := form_cells ((hf 7 (by omega)).trans hy7) e7
 obtain ⟨y8, hy8, e8⟩ := map_at hxs (i := 8) rfl
 have c8 : (cs.toList.drop (8 * 8)).take 8 = [Value.int .i64 0, .int .i64 0, .int .i64 0, .int .i64 0, .int .i64 0, .int .i64 0, .int .i64 0, .int .i64 0] := form_cells ((hf 8 (by omega)).trans hy8) e8
 have hall : ∀ i, i < 72 → cs.toList[i]? = some (.int .i64 (formN.getD i 0)) := by
   intro i hi
   have hc : ∀ r, r < 9 → (cs.toList.drop (r * 8)).take 8 = ((formN.drop (r * 8)).take 8).map (Value.int .i64) := by
     intro r hr
     obtain rfl | rfl | rfl | rfl | rfl | rfl | rfl | rfl | rfl : r = 0 ∨ r = 1 ∨ r = 2 ∨ r = 3 ∨ r = 4 ∨ r = 5 ∨ r = 6 ∨ r = 7 ∨ r = 8 := by omega
     · exact c0
     · exact c1
     · exact c2
     · exact c3
     · exact c4
     · exact c5
     · exact c6
     · exact c7
     · exact c8
   have h1 := congrArg (fun l => l[i % 8]?) (hc (i / 8) (by omega))
   simp only [List.getElem?_take, List.getElem?_drop, List.getElem?_map] at h1
   rw [if_pos (by omega), if_pos (by omega)] at h1
   have e : i / 8 * 8 + i % 8 = i := by omega
   rw [e] at h1
   rw [h1, List.getD_eq_getElem?_getD, List.getElem?_eq_getElem (by simpa [formN] using hi)]
   rfl
 have hcell : ∀ i, i < 72 → W.cell? ⟨4, i, none⟩ = some (.int .i64 (formN.getD i 0)) := by
   intro i hi
   have := World.var?_cell Tryz.gTab hvar i
   rw [this]
   simpa using hall i hi
 exact ⟨World.block_lt_of_cell? W _ (hcell 0 (by omega)), hcell⟩
theorem str_cells {H : Type} {enc : TypeId × Value → H} {W : World} {base : Nat} {sp : Nat → Bool} {held : Bool} {n : Nat} {cs : List Value} {x : DataW H × List MemPlace} {l : List UInt8} (h : DataW.trod enc Tryz.prog W base sp held n 9 cs = some x) (hx : x.1 = .lit (.string l)) : cs = [.string ⟨l.toArray⟩] := by
 obtain ⟨s, e, r, _⟩ := DataW.trod_string Tryz.underlying9 h
 subst r
 simp only [DataW.lit.injEq, Lit.string.injEq] at hx
 subst hx
 simpa using e
theorem Tryz.gWf : Tryz.prog.globalNamed "flotilla/words.forms" = some 2 := by kernel_rfl
theorem Tryz.gWfType : (Tryz.prog.globals[2]?).map (·.type) = some 172 := by kernel_rfl
theorem Tryz.cells172 : Tryz.prog.cellsOf 172 = 18 := by kernel_rfl
theorem Tryz.cells171 : Tryz.prog.cellsOf 171 = 2 := by kernel_rfl
theorem Tryz.und172 : Tryz.prog.underlying 172 = some (.array 9 171) := by kernel_rfl
section
variable {H : Type} {enc : TypeId × Value → H} {W : World} {base : Nat} {sp : Nat → Bool} {held : Bool} {fuel : Nat} {cs : List Value} {x : DataW H × List MemPlace}
theorem pair_cells {a b : List UInt8} (h : DataW.trod enc Tryz.prog W base sp held fuel 171 cs = some x) (hx : x.1 = .agg [.lit (.string a), .lit (.string b)]) : cs = [.string ⟨a.toArray⟩, .string ⟨b.toArray⟩] := by
 obtain ⟨xs, n, _, hx', hl, hlen, hf⟩ := DataW.trod_struct Tryz.underlying171 h
 subst hx'
 have hx : xs.map (·.1) = [.lit (.string a), .lit (.string b)] := by injection hx
 obtain ⟨y0, hy0, e0⟩ := map_at hx (i := 0) rfl
 obtain ⟨y1, hy1, e1⟩ := map_at hx (i := 1) rfl
 have g0 : DataW.trod enc Tryz.prog W base sp held n 9 ((cs.drop 0).take (Tryz.prog.cellsOf 9)) = some y0 := (hf 0 _ rfl).trans hy0
 have g1 : DataW.trod enc Tryz.prog W base sp held n 9 ((cs.drop 1).take (Tryz.prog.cellsOf 9)) = some y1 := (hf 1 _ rfl).trans hy1
 rw [Tryz.cells9] at g0 g1
 rw [Tryz.cells171] at hl
 exact list2 hl (str_cells g0 e0) (str_cells g1 e1)
end
theorem wf_of_laid {a b c d e f : String × DataW Unit} {r : List (String × DataW Unit)} {W : World} (h : laidMet Tryz.prog (a :: b :: c :: d :: e :: f :: ("flotilla/words.forms", Rows.laid_flotilla_words_forms) :: r) W) : Wf W := by
 obtain ⟨ps, ⟨g', t', cs, fuel, p, q, hg', ht', hvar, hd, _, _⟩, _⟩ := h.tail.tail.tail.tail.tail.tail
 obtain rfl := Option.some.inj (Tryz.gWf.symm.trans hg')
 obtain rfl := Option.some.inj (Tryz.gWfType.symm.trans ht')
 obtain ⟨xs, m, _, hx, hl, hlen, hf⟩ := DataW.trod_array Tryz.und172 hd
 rw [Tryz.cells172] at hl
 rw [Tryz.cells171] at hf
 have hxs : xs.map (·.1) = wfN.map fun q => (.agg [.lit (.string q.1), .lit (.string q.2)] : DataW Unit) := by
   have := congrArg Prod.fst hx
   have e : (.agg (xs.map (·.1)) : DataW Unit) = Rows.laid_flotilla_words_forms := this.symm
   injection e
 have hcell : ∀ i, i < 9 → W.cell? ⟨2, i * 2, none⟩ = some (.string ⟨(nmN i).toArray⟩) ∧ W.cell? ⟨2, i * 2 + 1, none⟩ = some (.string ⟨(ltN i).toArray⟩) := by
   intro i hi
   have hd : (wfN.map fun q => (.agg [.lit (.string q.1), .lit (.string q.2)] : DataW Unit))[i]? = some (.agg [.lit (.string (nmN i)), .lit (.string (ltN i))]) := by
     have hlen : wfN.length = 9 := rfl
     unfold nmN ltN
     rw [List.getElem?_map, List.getD_eq_getElem?_getD, List.getElem?_eq_getElem (by omega)]
     rfl
   obtain ⟨y, hy, e⟩ := map_at hxs hd
   have c := pair_cells ((hf i hi).trans hy) e
   have c0 := congrArg (fun l => l[0]?) c
   have c1 := congrArg (fun l => l[1]?) c
   simp only [List.getElem?_take, List.getElem?_drop] at c0 c1
   rw [if_pos (by omega)] at c0 c1
   refine ⟨?_, ?_⟩
   · rw [World.var?_cell Tryz.gWf hvar (i * 2)]
     simpa using c0
   · rw [World.var?_cell Tryz.gWf hvar (i * 2 + 1)]
     simpa using c1
 exact ⟨World.block_lt_of_cell? W _ (hcell 0 (by omega)).1, hcell⟩
theorem Tryz.gCd : Tryz.prog.globalNamed "flotilla/words.codes" = some 3 := by kernel_rfl
theorem Tryz.gCdType : (Tryz.prog.globals[3]?).map (·.type) = some 175 := by kernel_rfl
theorem Tryz.cells175 : Tryz.prog.cellsOf 175 = 5 := by kernel_rfl
theorem Tryz.und175 : Tryz.prog.underlying 175 = some (.array 5 9) := by kernel_rfl
theorem cd_of_laid {a b c d e f g : String × DataW Unit} {r : List (String × DataW Unit)} {W : World} (h : laidMet Tryz.prog (a :: b :: c :: d :: e :: f :: g :: ("flotilla/words.codes", Rows.laid_flotilla_words_codes) :: r) W) : Cd W := by
 obtain ⟨ps, ⟨g', t', cs, fuel, p, q, hg', ht', hvar, hd, _, _⟩, _⟩ := h.tail.tail.tail.tail.tail.tail.tail
 obtain rfl := Option.some.inj (Tryz.gCd.symm.trans hg')
 obtain rfl := Option.some.inj (Tryz.gCdType.symm.trans ht')
 obtain ⟨xs, m, _, hx, hl, hlen, hf⟩ := DataW.trod_array Tryz.und175 hd
 rw [Tryz.cells175] at hl
 rw [Tryz.cells9] at hf
 have hxs : xs.map (·.1) = cdN.map fun l => (.lit (.string l) : DataW Unit) := by
   have := congrArg Prod.fst hx
   have e : (.agg (xs.map (·.1)) : DataW Unit) = Rows.laid_flotilla_words_codes := this.symm
   injection e
 have hcell : ∀ i, i < 5 → W.cell? ⟨3, i, none⟩ = some (.string ⟨(cdN.getD i []).toArray⟩) := by
   intro i hi
   have hd : (cdN.map fun l => (.lit (.string l) : DataW Unit))[i]? = some (.lit (.string (cdN.getD i []))) := by
     have hlen : cdN.length = 5 := rfl
     rw [List.getElem?_map, List.getD_eq_getElem?_getD, List.getElem?_eq_getElem (by omega)]
     rfl
   obtain ⟨y, hy, e⟩ := map_at hxs hd
   have c := str_cells ((hf i hi).trans hy) e
   have hc : cs.toList[i]? = some (.string ⟨(cdN.getD i []).toArray⟩) := by
     have := congrArg (fun l => l[0]?) c
     simp only [List.getElem?_take, List.getElem?_drop] at this
     rw [if_pos (by omega)] at this
     simpa using this
   rw [World.var?_cell Tryz.gCd hvar i]
   simpa using hc
 exact ⟨World.block_lt_of_cell? W _ (hcell 0 (by omega)), hcell⟩
theorem Tryz.gKdt : Tryz.prog.globalNamed "flotilla/story.kinds" = some 0 := by kernel_rfl
theorem Tryz.gKdtType : (Tryz.prog.globals[0]?).map (·.type) = some 68 := by kernel_rfl
theorem Tryz.cells68 : Tryz.prog.cellsOf 68 = 12 := by kernel_rfl
theorem Tryz.und68 : Tryz.prog.underlying 68 = some (.array 12 9) := by kernel_rfl
theorem kd_of_laid {a b c d e f g k : String × DataW Unit} {r : List (String × DataW Unit)} {W : World} (h : laidMet Tryz.prog (a :: b :: c :: d :: e :: f :: g :: k :: ("flotilla/story.kinds", Rows.laid_flotilla_story_kinds) :: r) W) : Kdt W := by
 obtain ⟨ps, ⟨g', t', cs, fuel, p, q, hg', ht', hvar, hd, _, _⟩, _⟩ := h.tail.tail.tail.tail.tail.tail.tail.tail
 obtain rfl := Option.some.inj (Tryz.gKdt.symm.trans hg')
 obtain rfl := Option.some.inj (Tryz.gKdtType.symm.trans ht')
 obtain ⟨xs, m, _, hx, hl, hlen, hf⟩ := DataW.trod_array Tryz.und68 hd
 rw [Tryz.cells68] at hl
 rw [Tryz.cells9] at hf
 have hxs : xs.map (·.1) = kdN.map fun l => (.lit (.string l) : DataW Unit) := by
   have := congrArg Prod.fst hx
   have e : (.agg (xs.map (·.1)) : DataW Unit) = Rows.laid_flotilla_story_kinds := this.symm
   injection e
 have hcell : ∀ i, i < 12 → W.cell? ⟨0, i, none⟩ = some (.string ⟨(kdN.getD i []).toArray⟩) := by
   intro i hi
   have hd : (kdN.map fun l => (.lit (.string l) : DataW Unit))[i]? = some (.lit (.string (kdN.getD i []))) := by
     have hlen : kdN.length = 12 := rfl
     rw [List.getElem?_map, List.getD_eq_getElem?_getD, List.getElem?_eq_getElem (by omega)]
     rfl
   obtain ⟨y, hy, e⟩ := map_at hxs hd
   have c := str_cells ((hf i hi).trans hy) e
   have hc : cs.toList[i]? = some (.string ⟨(kdN.getD i []).toArray⟩) := by
     have := congrArg (fun l => l[0]?) c
     simp only [List.getElem?_take, List.getElem?_drop] at this
     rw [if_pos (by omega)] at this
     simpa using this
   rw [World.var?_cell Tryz.gKdt hvar i]
   simpa using hc
 exact ⟨World.block_lt_of_cell? W _ (hcell 0 (by omega)), hcell⟩
theorem Tryz.gStt : Tryz.prog.globalNamed "flotilla/story.statuses" = some 1 := by kernel_rfl
theorem Tryz.gSttType : (Tryz.prog.globals[1]?).map (·.type) = some 145 := by kernel_rfl
theorem Tryz.cells145 : Tryz.prog.cellsOf 145 = 4 := by kernel_rfl
theorem Tryz.und145 : Tryz.prog.underlying 145 = some (.array 4 9) := by kernel_rfl
theorem st_of_laid {a b c d e f g k l : String × DataW Unit} {r : List (String × DataW Unit)} {W : World} (h : laidMet Tryz.prog (a :: b :: c :: d :: e :: f :: g :: k :: l :: ("flotilla/story.statuses", Rows.laid_flotilla_story_statuses) :: r) W) : Stt W := by
 obtain ⟨ps, ⟨g', t', cs, fuel, p, q, hg', ht', hvar, hd, _, _⟩, _⟩ := h.tail.tail.tail.tail.tail.tail.tail.tail.tail
 obtain rfl := Option.some.inj (Tryz.gStt.symm.trans hg')
 obtain rfl := Option.some.inj (Tryz.gSttType.symm.trans ht')
 obtain ⟨xs, m, _, hx, hl, hlen, hf⟩ := DataW.trod_array Tryz.und145 hd
 rw [Tryz.cells145] at hl
 rw [Tryz.cells9] at hf
 have hxs : xs.map (·.1) = stN.map fun l => (.lit (.string l) : DataW Unit) := by
   have := congrArg Prod.fst hx
   have e : (.agg (xs.map (·.1)) : DataW Unit) = Rows.laid_flotilla_story_statuses := this.symm
   injection e
 have hcell : ∀ i, i < 4 → W.cell? ⟨1, i, none⟩ = some (.string ⟨(stN.getD i []).toArray⟩) := by
   intro i hi
   have hd : (stN.map fun l => (.lit (.string l) : DataW Unit))[i]? = some (.lit (.string (stN.getD i []))) := by
     have hlen : stN.length = 4 := rfl
     rw [List.getElem?_map, List.getD_eq_getElem?_getD, List.getElem?_eq_getElem (by omega)]
     rfl
   obtain ⟨y, hy, e⟩ := map_at hxs hd
   have c := str_cells ((hf i hi).trans hy) e
   have hc : cs.toList[i]? = some (.string ⟨(stN.getD i []).toArray⟩) := by
     have := congrArg (fun l => l[0]?) c
     simp only [List.getElem?_take, List.getElem?_drop] at this
     rw [if_pos (by omega)] at this
     simpa using this
   rw [World.var?_cell Tryz.gStt hvar i]
   simpa using hc
 exact ⟨World.block_lt_of_cell? W _ (hcell 0 (by omega)), hcell⟩
theorem en_of_laid {W : World} (h : laidMet Tryz.prog Rows.storyBackRow.laid W) : En W := ⟨vars_of_laid h, tab_of_laid h, wf_of_laid h, cd_of_laid h, st_of_laid h, kd_of_laid h⟩
end Go.Proofs.YtfeppannfcbakaaGreatDoor

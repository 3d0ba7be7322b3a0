import Derived.Test.YtfeppannfcbakaaGreatDoorEv3
import Derived.Test.YtfeppannfcbakaaGreatDoorEv6
import Derived.Laws.MakeOwn
import Derived.Deep.WholeRow
namespace Go.Proofs.YtfeppannfcbakaaGreatDoor
open Go.RowKit
set_option linter.unusedVariables false
set_option maxRecDepth 1000000
set_option maxHeartbeats 3200000
def Ev.left (e : Ev) : Ev :=
 if e.k = 1 then { e with a := 0, cd := 0 } else if e.k = 2 then { e with a := 0, nb := 0, ok := 0, onm := [], otx := [], on := 0, om := 0 } else if e.k = 3 then { e with a := 0, nb := 0, wh := 0, ok := 0, onm := [], otx := [], on := 0, om := 0 } else if e.k = 4 then { e with a := 0, nb := 0, nm := 0, rc := 0, rn := 0, ria := none, rik := 0, ric := 0 } else if e.k = 5 then { e with a := 0, nb := 0, nm := 0, wh := 0, rc := 0, rn := 0, ria := none, rik := 0, ric := 0 } else if e.k = 6 then { e with a := 0, nm := 0, fr := false, ec := 0, en := 0, pk := 0, pnm := [], ptx := [], pn := 0, pm := 0, rc := 0, rn := 0, ria := none, rik := 0, ric := 0 } else if e.k = 7 ∨ e.k = 10 then { e with a := 0, l0 := 0, l1 := 0, l2 := 0, l3 := 0, l4 := 0, l5 := 0, l6 := 0, l7 := 0 } else if e.k = 11 then { e with a := 0, sn := 0, sa := 0, dia := none, dik := 0, dic := 0 } else { e with a := 0 }
theorem Ev.left_cells (e : Ev) : e.left.cells = clrL (kindT e.k) e.cells := by
 unfold Ev.left kindT
 repeat' split
 all_goals rfl
def Ev.inForm (e : Ev) : Bool := if e.k < 1 ∨ 11 < e.k then false else okL (kindT e.k) e.cells && e.left.empty
theorem kindT_len (k : Int) : (kindT k).length ≤ 100 := by
 unfold kindT
 repeat' split
 all_goals decide
theorem isInForm_any (e : Ev) {cs : List Comp} {w : World} (A : All cs w) : Calls Tryz.prog 26 #[.agg e.cells.toArray] w fun r w' => r = .returned (.bool e.inForm) ∧ All cs w' := by
 have A1 := hid (A.addBlk e.cells 36)
 have hc := cell_in (P := w.heap.size) (o := 0) A1.out (t := 36) (List.mem_cons_self) (v := .int .i64 e.k) rfl
 have CT := hid (things_any (P := w.heap.size) A1.out hc)
 have CK : Hid (∀ b W, All (blkC b ((kindT e.k).map (thV w.heap.size)) 20 :: blkC w.heap.size e.cells 36 :: cs) W → Calls Tryz.prog 53 #[.slice (some ⟨b, 0, none⟩) (kindT e.k).length (kindT e.k).length] W fun r w' => r = .returned (.bool (okL (kindT e.k) e.cells)) ∧ All (blkC w.heap.size e.left.cells 36 :: blkC b ((kindT e.k).map (thV w.heap.size)) 20 :: cs) w') := hid (fun b W hW => by
   rw [Ev.left_cells]
   exact takeOut_any (kindT_len _) (e.typed e.k) hW.swap)
 have CE : Hid (∀ W, Calls Tryz.prog 54 #[.agg e.left.cells.toArray] W fun r w' => r = .returned (.bool e.left.empty) ∧ Below W.heap.size W w') := hid (fun W => isEmpty_any e.left W)
 have I36 : Hid ((Tryz.prog.info? 36).map (·.size) = some e.left.cells.toArray.size) := hid (by kernel_rfl)
 by_cases hk : e.k < 1 ∨ 11 < e.k
 · have EF : Hid (e.inForm = false) := hid (by unfold Ev.inForm; rw [if_pos hk])
   have KF := hid A1.out.tail
   clear A A1 CT CK CE I36
   generalize e.cells = EC at *
   rcases hk with h | h
   all_goals
     go_enter Tryz.func26, Tryz.ntmps26
     go_upto_region 1 with fail
     generalize w.alloc (.cells EC.toArray 36) = w1 at *
     go_wp2
     go_ret
     exact ⟨by rw [EF.out]; rfl, KF.out⟩
 · have EF : Hid (e.inForm = (okL (kindT e.k) e.cells && e.left.empty)) := hid (by unfold Ev.inForm; rw [if_neg hk])
   have h1 : 1 ≤ e.k := by omega
   have h2 : e.k ≤ 11 := by omega
   unfold ThPost at CT
   generalize (kindT e.k).map (thV w.heap.size) = LV at *
   generalize (kindT e.k).length = n at *
   generalize okL (kindT e.k) e.cells = B1 at *
   generalize e.left.empty = B2 at *
   generalize e.left.cells = LC at *
   clear A hk
   generalize e.cells = EC at *
   cases B1
   · go_enter Tryz.func26, Tryz.ntmps26
     go_upto_region 1 with fail
     generalize w.alloc (.cells EC.toArray 36) = w1 at *
     go_wp2_with (first | (go_at_call 28; refine CT.out.mono ?_; rintro r w2 ⟨b2, rfl, A2⟩; have K2 := hid A2; clear A2) | (go_at_call 53; refine (CK.out _ _ K2.out).mono ?_; rintro r w3 ⟨rfl, A3⟩; have K3 := hid A3; have HB := hid (A3.blk (g := w.heap.size) (vs := LC) (t := 36) (List.mem_cons_self)); clear A3) | (refine wpList_step (fun K hK => ?_); rw [if_pos (by rfl)]; refine wp_load_row 36 _ rfl w.heap.size rfl 36 LC.toArray (0, 0) _ HB.out Tryz.underlying36 rfl I36.out (hK _ _ ?_); clear hK K) | (go_at_call 54; refine (CE.out _).mono ?_; rintro r w4 ⟨rfl, B4⟩; have K4 := hid (K3.out.later B4); clear B4))
     go_ret
     exact ⟨by rw [EF.out]; rfl, K3.out.tail.tail⟩
   · go_enter Tryz.func26, Tryz.ntmps26
     go_upto_region 1 with fail
     generalize w.alloc (.cells EC.toArray 36) = w1 at *
     go_wp2_with (first | (go_at_call 28; refine CT.out.mono ?_; rintro r w2 ⟨b2, rfl, A2⟩; have K2 := hid A2; clear A2) | (go_at_call 53; refine (CK.out _ _ K2.out).mono ?_; rintro r w3 ⟨rfl, A3⟩; have K3 := hid A3; have HB := hid (A3.blk (g := w.heap.size) (vs := LC) (t := 36) (List.mem_cons_self)); clear A3) | (refine wpList_step (fun K hK => ?_); rw [if_pos (by rfl)]; refine wp_load_row 36 _ rfl w.heap.size rfl 36 LC.toArray (0, 0) _ HB.out Tryz.underlying36 rfl I36.out (hK _ _ ?_); clear hK K) | (go_at_call 54; refine (CE.out _).mono ?_; rintro r w4 ⟨rfl, B4⟩; have K4 := hid (K3.out.later B4); clear B4))
     go_ret
     exact ⟨by rw [EF.out]; simp, K4.out.tail.tail⟩
set_option linter.unusedVariables false
set_option maxRecDepth 1000000
set_option maxHeartbeats 6400000
def Ev.words (e : Ev) (items : Ws) (data : List UInt8) : Ws := kdN.getD e.k.toNat [] :: (kindT e.k).flatMap (wdT e.cells items data)
def Ev.err (e : Ev) (items : Ws) : Int := if e.inForm = false then 190 else ersL (er1 e.cells items) (kindT e.k)
def Ev.line (e : Ev) (items : Ws) (data : List UInt8) : List UInt8 := if e.err items ≠ 0 then [] else joinW (e.words items data)
theorem inForm_k {e : Ev} (h : e.inForm = true) : 1 ≤ e.k ∧ e.k ≤ 11 := by
 unfold Ev.inForm at h
 split at h
 · simp at h
 · omega
theorem Line_any (e : Ev) {items : Ws} {data : List UInt8} {cs : List Comp} {w : World} (hE : ∀ W, All cs W → En W)
   (hT : e.inForm = true → ∀ t ∈ kindT e.k, TpWT e.cells items data cs t) (hw : ∀ t ∈ kindT e.k, (wdT e.cells items data t).length ≤ 100)
   (hJ : e.err items = 0 → lenJ (e.words items data) ≤ 100000000000000) (A : All cs w) :
   Calls Tryz.prog 11 #[.agg e.cells.toArray] w fun r w' => r = .returned (.tuple #[.string ⟨(e.line items data).toArray⟩, .int .i64 (e.err items)]) ∧ All cs w' := by
 have A1 := hid (A.addBlk e.cells 36)
 have CF := hid (fun W ds (hW : All ds W) => isInForm_any e hW)
 have I36 : Hid ((Tryz.prog.info? 36).map (·.size) = some e.cells.toArray.size) := hid (by kernel_rfl)
 have HB := hid (A1.out.blk (g := w.heap.size) (vs := e.cells) (t := 36) (List.mem_cons_self))
 have ZC : Hid (∀ ds W, All (blkC w.heap.size e.cells 36 :: ds) W → W.cell? ⟨w.heap.size, 0, none⟩ = some (.int .i64 e.k)) := hid (fun ds W hW => cell_in (P := w.heap.size) (o := 0) hW (t := 36) (List.mem_cons_self) rfl)
 have CT : Hid (∀ W, All (blkC w.heap.size e.cells 36 :: cs) W → Calls Tryz.prog 28 #[.pointer (some ⟨w.heap.size, 0, none⟩)] W (ThPost w.heap.size (kindT e.k) (blkC w.heap.size e.cells 36 :: cs))) := hid (fun W hW => things_any hW (ZC.out _ _ hW))
 by_cases hF : e.inForm = true
 · have hk := inForm_k hF
   have CW : Hid (∀ b W, All (blkC b ((kindT e.k).map (thV w.heap.size)) 20 :: blkC w.heap.size e.cells 36 :: cs) W → Calls Tryz.prog 27 #[.slice (some ⟨b, 0, none⟩) (kindT e.k).length (kindT e.k).length] W (WRPost (wdsL (wdT e.cells items data) (er1 e.cells items) (kindT e.k)) (ersL (er1 e.cells items) (kindT e.k)) (blkC b ((kindT e.k).map (thV w.heap.size)) 20 :: blkC w.heap.size e.cells 36 :: cs))) := hid (fun b W hW => thingsWords_any (fun V hV => hE V hV.tail.tail) (List.mem_cons_of_mem _ (List.mem_cons_self)) (fun t ht => (hT hF t ht).mono (fun V hV => hV.tail.tail)) (kindT_len _) hw (List.mem_cons_self) hW)
   have HK : Hid (∀ W, All cs W → W.cell? ⟨0, e.k.toNat, none⟩ = some (.string ⟨(kdN.getD e.k.toNat []).toArray⟩)) := hid (fun W hW => (hE W hW).k.2 e.k.toNat (by omega))
   obtain ⟨kn, hkn⟩ : ∃ kn : Nat, e.k = (kn : Int) := ⟨e.k.toNat, by omega⟩
   have ekn : e.k.toNat = kn := by omega
   by_cases hX : ersL (er1 e.cells items) (kindT e.k) = 0
   · have EE : Hid (e.err items = 0 ∧ e.line items data = joinW (e.words items data)) := hid (by
       have h1 : e.err items = 0 := by unfold Ev.err; rw [if_neg (by simp [hF]), hX]
       exact ⟨h1, by unfold Ev.line; rw [if_neg (by simp [h1])]⟩)
     have WE : Hid (wdsL (wdT e.cells items data) (er1 e.cells items) (kindT e.k) = (kindT e.k).flatMap (wdT e.cells items data)) := hid (by unfold wdsL; rw [if_neg (by simp [hX])])
     rw [hX, WE.out] at CW
     have EW : Hid (e.words items data = kdN.getD kn [] :: (kindT e.k).flatMap (wdT e.cells items data)) := hid (by unfold Ev.words; rw [ekn])
     have FL := hid (Nat.le_trans (fm_len hw) (Nat.mul_le_mul_left 100 (kindT_len e.k)))
     have HJJ := hid (hJ EE.out.1)
     have hF' : e.inForm = true := hF
     rw [hF'] at CF
     rw [ekn] at HK
     rw [hkn] at ZC
     unfold ThPost at CT
     unfold WRPost at CW
     clear A hE hT hw hJ hX WE hF hF' ekn
     have hk1 : (kn : Int) < 12 := by omega
     clear hkn hk
     generalize (kindT e.k).flatMap (wdT e.cells items data) = WS at *
     generalize (kindT e.k).map (thV w.heap.size) = LV at *
     generalize (kindT e.k).length = n at *
     generalize hKD : kdN.getD kn [] = KD at *
     clear hKD
     generalize e.cells = EC at *
     go_enter Tryz.func11, Tryz.ntmps11
     go_upto_region 1 with fail
     generalize w.alloc (.cells EC.toArray 36) = w1 at *
     go_upto_region 6 with (first | (refine wpList_load_row rfl 36 _ rfl w.heap.size rfl 36 EC.toArray (0, 0) _ HB.out Tryz.underlying36 rfl I36.out ?_) | (go_at_call 26; refine (CF.out _ _ A1.out).mono ?_; rintro r w2 ⟨rfl, A2⟩; have K2 := hid A2; clear A2) | (go_at_call 28; refine (CT.out _ K2.out).mono ?_; rintro r w3 ⟨b3, rfl, A3⟩; have K3 := hid A3; clear A3) | (go_at_call 27; refine (CW.out _ _ K3.out).mono ?_; rintro r w4 ⟨v4, rfl, A4⟩; have K4 := hid A4; clear A4))
     have z0 := ZC.out _ _ K4.out.tail.tail
     have hk0 := HK.out _ K4.out.tail.tail.tail
     have KO := hid (own_new K4.out [KD] (by simp))
     obtain ⟨ao6, c6, w6, hr6, A6⟩ := appR KO.out (rt_own KO.out.tail) (by have := FL.out; simp only [List.length_cons, List.length_nil]; omega)
     have R6 : Hid ((Builtin.append_ #[27, 27] 27 #[.slice (some ⟨w4.heap.size, 0, none⟩) 1 1, v4]).run Tryz.prog (w4.alloc (.cells #[.string ⟨KD.toArray⟩] 9)) = .ok (.slice ao6 (1 + WS.length) c6) w6) := hid hr6
     have CJ := hid (Join_any (rt_own A6) (by have := FL.out; simp only [List.cons_append, List.nil_append, List.length_cons]; omega) (by have := HJJ.out; rw [EW.out] at this; exact this))
     have K6 := hid A6
     clear hr6 A6 KO HJJ
     have EL : Hid (joinW ([KD] ++ WS) = e.line items data) := hid (by rw [EE.out.2, EW.out]; rfl)
     rw [EL.out] at CJ
     generalize hLN : ByteArray.mk (e.line items data).toArray = LN at *
     have HLN := hid hLN
     clear hLN
     generalize ByteArray.mk KD.toArray = KB at *
     clear EL EW
     go_wp2_with (first | (at_builtin; refine wpList_append_run rfl _ _ 27 rfl _ _ _ _ rfl rfl R6.out ?_) | (go_at_call 29; refine CJ.out.mono ?_; rintro r w7 ⟨rfl, B7⟩; have K7 := hid (K6.out.later B7); clear B7))
     go_ret2
     exact ⟨by rw [EE.out.1, HLN.out]; rfl, K7.out.tail.tail.tail.tail⟩
   · have EE : Hid (e.err items = ersL (er1 e.cells items) (kindT e.k) ∧ e.line items data = []) := hid (by
       have h1 : e.err items = ersL (er1 e.cells items) (kindT e.k) := by unfold Ev.err; rw [if_neg (by simp [hF])]
       exact ⟨h1, by unfold Ev.line; rw [if_pos (by rw [h1]; exact hX)]⟩)
     rw [EE.out.1, EE.out.2]
     have hF' : e.inForm = true := hF
     rw [hF'] at CF
     unfold ThPost at CT
     unfold WRPost at CW
     have hx' : (ersL (er1 e.cells items) (kindT e.k) == 0) = false := by simpa using hX
     clear A hE hT hw hJ hF hF' ekn hkn hk HK EE hX
     generalize ersL (er1 e.cells items) (kindT e.k) = X at *
     generalize (kindT e.k).map (thV w.heap.size) = LV at *
     generalize (kindT e.k).length = n at *
     generalize wdsL (wdT e.cells items data) (er1 e.cells items) (kindT e.k) = WS at *
     generalize e.cells = EC at *
     go_enter Tryz.func11, Tryz.ntmps11
     go_upto_region 1 with fail
     generalize w.alloc (.cells EC.toArray 36) = w1 at *
     go_wp2_with (first | (refine wpList_load_row rfl 36 _ rfl w.heap.size rfl 36 EC.toArray (0, 0) _ HB.out Tryz.underlying36 rfl I36.out ?_) | (go_at_call 26; refine (CF.out _ _ A1.out).mono ?_; rintro r w2 ⟨rfl, A2⟩; have K2 := hid A2; clear A2) | (go_at_call 28; refine (CT.out _ K2.out).mono ?_; rintro r w3 ⟨b3, rfl, A3⟩; have K3 := hid A3; clear A3) | (go_at_call 27; refine (CW.out _ _ K3.out).mono ?_; rintro r w4 ⟨v4, rfl, A4⟩; have K4 := hid A4; clear A4))
     go_ret2
     exact ⟨rfl, K4.out.tail.tail.tail⟩
 · have hF' : e.inForm = false := by simpa using hF
   have EE : Hid (e.err items = 190 ∧ e.line items data = []) := hid (by
     have h1 : e.err items = 190 := by unfold Ev.err; rw [if_pos hF']
     exact ⟨h1, by unfold Ev.line; rw [if_pos (by rw [h1]; decide)]⟩)
   rw [EE.out.1, EE.out.2]
   rw [hF'] at CF
   clear A hE hT hw hJ hF hF' EE CT ZC
   generalize e.cells = EC at *
   go_enter Tryz.func11, Tryz.ntmps11
   go_upto_region 1 with fail
   generalize w.alloc (.cells EC.toArray 36) = w1 at *
   go_wp2_with (first | (refine wpList_load_row rfl 36 _ rfl w.heap.size rfl 36 EC.toArray (0, 0) _ HB.out Tryz.underlying36 rfl I36.out ?_) | (go_at_call 26; refine (CF.out _ _ A1.out).mono ?_; rintro r w2 ⟨rfl, A2⟩; have K2 := hid A2; clear A2))
   go_ret2
   exact ⟨rfl, K2.out.tail⟩
set_option linter.unusedVariables false
set_option maxRecDepth 1000000
set_option maxHeartbeats 800000
def evW (x : List UInt8) : Option Nat := findW x 1 (kdN.drop 1)
def evA (x : List UInt8) : Value := .tuple #[.int .i64 (((evW x).getD 0 : Nat) : Int), .bool (evW x).isSome]
def stW (x : List UInt8) : Option Nat := findW x 1 (stN.drop 1)
def stA (x : List UInt8) : Value := .tuple #[.int .i64 (((stW x).getD 0 : Nat) : Int), .bool (stW x).isSome]
theorem evOf_any {x : List UInt8} {w : World} (T : Kdt w) : Calls Tryz.prog 72 #[.string ⟨x.toArray⟩] w fun e w' => e = .returned (evA x) ∧ w' = w := by
 have kl : kdN.length = 12 := rfl
 have TC : Hid (∀ i, i < 12 → w.cell? ⟨0, i, none⟩ = some (.string ⟨(kdN.getD i []).toArray⟩)) := hid (fun i hi => T.2 i hi)
 have EQ : Hid (∀ k, ((⟨(kdN.getD k []).toArray⟩ : ByteArray).toList == (⟨x.toArray⟩ : ByteArray).toList) = decide (kdN.getD k [] = x)) := hid (fun k => ba_ne)
 have FA : Hid (∀ k, k < 12 → findW x k (kdN.drop k) = if kdN.getD k [] = x then some k else findW x (k + 1) (kdN.drop (k + 1))) := hid (fun k hk => findW_at (by rw [kl]; exact hk))
 have FE : Hid (findW x 12 (kdN.drop 12) = none) := hid rfl
 have HA : Hid (findW x 1 (kdN.drop 1) = evW x) := hid rfl
 have key : ∀ D, evW x = D → Hid (evA x = .tuple #[.int .i64 ((D.getD 0 : Nat) : Int), .bool D.isSome]) := fun D h => hid (by unfold evA; rw [h])
 generalize evA x = AN at *
 generalize evW x = AW at *
 clear T kl
 generalize hX : ByteArray.mk x.toArray = X at *
 clear hX
 go_enter Tryz.func72, Tryz.ntmps72
 go_wp2
 go_loopw [4] (fun iv wr => ∃ i : Nat, 1 ≤ i ∧ i ≤ 12 ∧ iv = .int .i64 (i : Int) ∧ wr = w ∧ Hid (findW x i (kdN.drop i) = AW)) (fun iv _ => 12 - (intOf iv).toNat)
 case atStart => exact ⟨1, by omega, by omega, rfl, rfl, HA⟩
 case round =>
   obtain ⟨i, hi1, hi9, rfl, rfl, hR⟩ := hrel
   clear HA
   by_cases hlt : i < 12
   · have hlt' : (i : Int) ≤ 11 := by omega
     have hlt2 : (i : Int) < 12 := by omega
     have h1 := TC.out i hlt
     have eq := EQ.out i
     by_cases hx : kdN.getD i [] = x
     · rw [decide_eq_true hx] at eq
       have fin := key (some i) (by rw [← hR.out, FA.out i hlt, if_pos hx])
       generalize ByteArray.mk (kdN.getD i []).toArray = Y at *
       clear hx key
       go_wp2
       go_ret2
       exact ⟨by rw [fin.out]; rfl, rfl⟩
     · rw [decide_eq_false hx] at eq
       have nx : Hid (findW x (i + 1) (kdN.drop (i + 1)) = AW) := hid (by rw [← hR.out, FA.out i hlt, if_neg hx])
       generalize ByteArray.mk (kdN.getD i []).toArray = Y at *
       clear hx key
       go_wp2
       go_roundw
       case rel => exact ⟨i + 1, by omega, by omega, by go_num, trivial, nx⟩
       case measure => simp [intOf]; omega
   · have hlt' : ¬ (i : Int) ≤ 11 := by omega
     have ek : i = 12 := by omega
     have fin := key none (by rw [← hR.out, ek]; exact FE.out)
     clear ek key
     go_wp2
     go_ret2
     exact ⟨by rw [fin.out]; rfl, rfl⟩
theorem stOf_any {x : List UInt8} {w : World} (T : Stt w) : Calls Tryz.prog 150 #[.string ⟨x.toArray⟩] w fun e w' => e = .returned (stA x) ∧ w' = w := by
 have kl : stN.length = 4 := rfl
 have TC : Hid (∀ i, i < 4 → w.cell? ⟨1, i, none⟩ = some (.string ⟨(stN.getD i []).toArray⟩)) := hid (fun i hi => T.2 i hi)
 have EQ : Hid (∀ k, ((⟨(stN.getD k []).toArray⟩ : ByteArray).toList == (⟨x.toArray⟩ : ByteArray).toList) = decide (stN.getD k [] = x)) := hid (fun k => ba_ne)
 have FA : Hid (∀ k, k < 4 → findW x k (stN.drop k) = if stN.getD k [] = x then some k else findW x (k + 1) (stN.drop (k + 1))) := hid (fun k hk => findW_at (by rw [kl]; exact hk))
 have FE : Hid (findW x 4 (stN.drop 4) = none) := hid rfl
 have HA : Hid (findW x 1 (stN.drop 1) = stW x) := hid rfl
 have key : ∀ D, stW x = D → Hid (stA x = .tuple #[.int .i64 ((D.getD 0 : Nat) : Int), .bool D.isSome]) := fun D h => hid (by unfold stA; rw [h])
 generalize stA x = AN at *
 generalize stW x = AW at *
 clear T kl
 generalize hX : ByteArray.mk x.toArray = X at *
 clear hX
 go_enter Tryz.func150, Tryz.ntmps150
 go_wp2
 go_loopw [4] (fun iv wr => ∃ i : Nat, 1 ≤ i ∧ i ≤ 4 ∧ iv = .int .i64 (i : Int) ∧ wr = w ∧ Hid (findW x i (stN.drop i) = AW)) (fun iv _ => 4 - (intOf iv).toNat)
 case atStart => exact ⟨1, by omega, by omega, rfl, rfl, HA⟩
 case round =>
   obtain ⟨i, hi1, hi9, rfl, rfl, hR⟩ := hrel
   clear HA
   by_cases hlt : i < 4
   · have hlt' : (i : Int) ≤ 3 := by omega
     have hlt2 : (i : Int) < 4 := by omega
     have h1 := TC.out i hlt
     have eq := EQ.out i
     by_cases hx : stN.getD i [] = x
     · rw [decide_eq_true hx] at eq
       have fin := key (some i) (by rw [← hR.out, FA.out i hlt, if_pos hx])
       generalize ByteArray.mk (stN.getD i []).toArray = Y at *
       clear hx key
       go_wp2
       go_ret2
       exact ⟨by rw [fin.out]; rfl, rfl⟩
     · rw [decide_eq_false hx] at eq
       have nx : Hid (findW x (i + 1) (stN.drop (i + 1)) = AW) := hid (by rw [← hR.out, FA.out i hlt, if_neg hx])
       generalize ByteArray.mk (stN.getD i []).toArray = Y at *
       clear hx key
       go_wp2
       go_roundw
       case rel => exact ⟨i + 1, by omega, by omega, by go_num, trivial, nx⟩
       case measure => simp [intOf]; omega
   · have hlt' : ¬ (i : Int) ≤ 3 := by omega
     have ek : i = 4 := by omega
     have fin := key none (by rw [← hR.out, ek]; exact FE.out)
     clear ek key
     go_wp2
     go_ret2
     exact ⟨by rw [fin.out]; rfl, rfl⟩
theorem next_nil {R : Nat} {ao : Option Addr} {c : Nat} {cs : List Comp} {w : World} (A : All (blkC R [.slice ao 0 c] 124 :: cs) w) : Calls Tryz.prog 71 #[.pointer (some ⟨R, 0, none⟩)] w fun e w' => e = .returned (.tuple #[.string ⟨#[]⟩, .bool false]) ∧ w' = w := by
 have hc := cell_in (P := R) (o := 0) A (List.mem_cons_self) rfl
 clear A
 go_enter Tryz.func71, Tryz.ntmps71
 go_wp2
 go_ret2
 exact ⟨rfl, rfl⟩
theorem next_cons {R : Nat} {s : Value} {x : List UInt8} {r : Ws} {cs : List Comp} {w : World} (A : All (blkC R [s] 124 :: cs) w) (hR : Rt w s (x :: r)) (hn : r.length < 140737488355327) :
   Calls Tryz.prog 71 #[.pointer (some ⟨R, 0, none⟩)] w fun e w' => e = .returned (.tuple #[.string ⟨x.toArray⟩, .bool true]) ∧ ∃ s', (∀ W, Rt W s (x :: r) → Rt W s' r) ∧ All (blkC R [s'] 124 :: cs) w' := by
 have hR0 := hR
 obtain ⟨ao, c, rfl, hcn, hx⟩ := hR
 rcases hx with h | ⟨g, o, rfl, hg, hcell⟩
 · simp at h
 have hx0 : w.cell? ⟨g, o, none⟩ = some (.string ⟨x.toArray⟩) := hcell 0 (by simp)
 have hc := cell_in (P := R) (o := 0) A (List.mem_cons_self) rfl
 have hf := free_at (A.blk (List.mem_cons_self)) 0
 have hRl : R < w.heap.size := A.1.2.2 R (by simp [blkC])
 simp only [List.length_cons] at hcn hc
 clear hcell hR0
 by_cases h1 : c = 1
 · have hr : r = [] := List.eq_nil_of_length_eq_zero (by omega)
   subst hr h1
   have K2 := hid (A.setBlk 0 (.slice (some ⟨g, o, none⟩) 0 0))
   clear A
   go_enter Tryz.func71, Tryz.ntmps71
   go_wp2
   go_ret2
   exact ⟨rfl, _, fun W _ => ⟨_, 0, rfl, Nat.le_refl _, Or.inl rfl⟩, K2.out⟩
 · have K2 := hid (A.setBlk 0 (.slice (some ⟨g, o + 1, none⟩) r.length (c - 1)))
   have RT : Hid (∀ W, Rt W (.slice (some ⟨g, o, none⟩) (x :: r).length c) (x :: r) → Rt W (.slice (some ⟨g, o + 1, none⟩) r.length (c - 1)) r) := hid (fun W hW => by
     obtain ⟨a1, c1, e1, hc1, hx1⟩ := hW
     injection e1 with e2 e3 e4
     subst e2 e4
     rcases hx1 with h | ⟨g', o', e5, hg', hc'⟩
     · simp at h
     · injection e5 with e6
       injection e6 with e7 e8
       subst e7 e8
       refine ⟨_, _, rfl, by simp only [List.length_cons] at hc1; omega, Or.inr ⟨_, _, rfl, hg', fun j hj => ?_⟩⟩
       have := hc' (j + 1) (by simp; omega)
       rw [show o + 1 + j = o + (j + 1) by omega]
       simpa using this)
   clear A
   generalize ByteArray.mk x.toArray = X at *
   simp only [List.length_cons] at RT ⊢
   generalize hrl : r.length = n at *
   have e1 : (((n + 1 : Nat) : Int) == 0) = false := by simp; omega
   have e2 : (0 : Int) < ((n + 1 : Nat) : Int) := by omega
   go_enter Tryz.func71, Tryz.ntmps71
   go_wp2
   go_ret2
   exact ⟨rfl, _, RT.out, K2.out⟩
set_option linter.unusedVariables false
set_option maxRecDepth 1000000
set_option maxHeartbeats 3200000
def hexR : List UInt8 → Option (List UInt8)
 | [] => some []
 | [_] => none
 | a :: b :: r => match hexN a.toNat, hexN b.toNat with
   | some x, some y => (hexR r).map (UInt8.ofNat (16 * x + y) :: ·)
   | _, _ => none
def datR (l : List UInt8) : Option (List UInt8) := if l.length % 2 ≠ 0 ∨ 4608 < l.length then none else hexR l
def RDPost (x : Option (List UInt8)) (cs : List Comp) (e : Ending) (w' : World) : Prop := ∃ v, e = .returned (.tuple #[v, .bool x.isSome]) ∧ All (ownC 5 v (cellsB (x.getD [])) :: cs) w'
theorem hexR_at {l : List UInt8} {m : Nat} (h : m + 1 < l.length) : hexR (l.drop m) = match hexN (l.getD m 0).toNat, hexN (l.getD (m + 1) 0).toNat with
   | some x, some y => (hexR (l.drop (m + 2))).map (UInt8.ofNat (16 * x + y) :: ·)
   | _, _ => none := by
 rw [List.drop_eq_getElem_cons (show m < l.length by omega), List.drop_eq_getElem_cons h, hexR]
 have e1 : l.getD m 0 = l[m] := by rw [List.getD_eq_getElem?_getD, List.getElem?_eq_getElem (by omega)]; rfl
 have e2 : l.getD (m + 1) 0 = l[m + 1] := by rw [List.getD_eq_getElem?_getD, List.getElem?_eq_getElem h]; rfl
 rw [e1, e2]
theorem All.addMake {cs : List Comp} {w : World} (A : All cs w) (c : Nat) (hc : c ≤ 100000) : ∃ w', (Instr.makeSlice 32 (.int .i64 0) (.int .i64 (c : Int))).run Tryz.prog w = .ok (.slice (some ⟨w.heap.size, 0, none⟩) 0 c) w' ∧ All (ownC 5 (.slice (some ⟨w.heap.size, 0, none⟩) 0 c) [] :: cs) w' := by
 obtain ⟨i1, hi1, hz0, hz1, hz2⟩ := info_parts Tryz.info5
 have hr := run_makeSlice (P := Tryz.prog) (w := w) 32 5 i1 (.int .u8 0) Tryz.underlying32 hi1 hz0 .i64 .i64 0 (c : Int) (Int.le_refl _) (by omega) (by rw [hz1]; simp; omega) (by rw [hz2]; omega) (by omega)
 simp only [Int.toNat_zero, Int.toNat_natCast] at hr
 refine ⟨_, hr, A.addOwn (ba w _) ?_⟩
 rw [hz1]
 exact World.ownsRow_made w _ c (Nat.le_refl _) (by unfold maxLen; omega) (by rw [size_madeCells])
theorem readData_any {l : List UInt8} {cs : List Comp} {w : World} (A : All cs w) (hl : l.length ≤ 140737488355328) : Calls Tryz.prog 151 #[.string ⟨l.toArray⟩] w (RDPost (datR l) cs) := by
 have HA := hid A
 clear A
 have sz : (⟨l.toArray⟩ : ByteArray).size = l.length := by simp [ByteArray.size]
 have IX : Hid (∀ k, k < l.length → ∀ W, (Instr.index 9 (.string ⟨l.toArray⟩) (.int .i64 (k : Int))).run Tryz.prog W = .ok (.int .u8 ((l.getD k 0).toNat : Int)) W) := hid fun k hk W => idx_at hk W
 have HAT : Hid (∀ m, m + 1 < l.length → hexR (l.drop m) = match hexN (l.getD m 0).toNat, hexN (l.getD (m + 1) 0).toNat with
   | some x, some y => (hexR (l.drop (m + 2))).map (UInt8.ofNat (16 * x + y) :: ·)
   | _, _ => none) := hid (fun k hk => hexR_at hk)
 by_cases ho : l.length % 2 ≠ 0
 · have e : datR l = none := by unfold datR; rw [if_pos (Or.inl ho)]
   rw [e]
   generalize ByteArray.mk l.toArray = X at *
   generalize l.length = n at *
   have e1 : (n : Int) % 2 = 1 := by omega
   clear ho IX HAT
   go_enter Tryz.func151, Tryz.ntmps151
   go_wp2
   go_ret2
   exact ⟨_, rfl, All.addNil HA.out⟩
 · have ho' : l.length % 2 = 0 := by omega
   by_cases hg : 4608 < l.length
   · have e : datR l = none := by unfold datR; rw [if_pos (Or.inr hg)]
     rw [e]
     generalize ByteArray.mk l.toArray = X at *
     generalize l.length = n at *
     have e1 : (n : Int) % 2 = 0 := by omega
     have e2 : (4608 : Int) < (n : Int) := by omega
     clear ho IX HAT
     go_enter Tryz.func151, Tryz.ntmps151
     go_wp2
     go_ret2
     exact ⟨_, rfl, All.addNil HA.out⟩
   · have e : datR l = hexR l := by unfold datR; rw [if_neg (by omega)]
     rw [e]
     have H0 : Hid (hexR l = (hexR (l.drop 0)).map ([] ++ ·)) := hid (by simp)
     have FE : Hid (hexR (l.drop l.length) = some []) := hid (by rw [List.drop_length]; rfl)
     obtain ⟨wm, hm, AM⟩ := HA.out.addMake (l.length / 2) (by omega)
     have HM := hid AM
     generalize hX : ByteArray.mk l.toArray = X at *
     generalize hn : l.length = n at *
     generalize hRR : hexR l = RR at *
     clear hX hn AM hRR e
     have e1 : (n : Int) % 2 = 0 := by omega
     have e2 : ¬ (4608 : Int) < (n : Int) := by omega
     have e3 : ((n / 2 : Nat) : Int) = (n : Int) / 2 := by omega
     rw [e3] at hm
     clear ho hl
     go_enter Tryz.func151, Tryz.ntmps151
     go_wp2
     go_loopw [4, 5] (fun av iv wr => ∃ (m : Nat) (acc : List UInt8), m ≤ n ∧ m % 2 = 0 ∧ iv = .int .i64 (m : Int) ∧ Hid (acc.length ≤ m) ∧ Hid (RR = (hexR (l.drop m)).map (acc ++ ·)) ∧ Hid (All (ownC 5 av (cellsB acc) :: cs) wr)) (fun _ iv _ => n - (intOf iv).toNat)
     case atStart => exact ⟨0, [], by omega, rfl, rfl, hid (Nat.le_refl _), H0, HM⟩
     case round =>
       obtain ⟨m, acc, hk, hm2, rfl, hacc, hR, HK⟩ := hrel
       clear H0 HM hm
       by_cases hlt : m < n
       · have hlt' : (m : Int) < (n : Int) := by omega
         have i0 := IX.out m hlt
         have i1 := IX.out (m + 1) (by omega)
         rw [show ((m + 1 : Nat) : Int) = (m : Int) + 1 by omega] at i1
         have hm9 : (m : Int) + 2 ≤ 4610 := by omega
         have AT := hid (HAT.out m (by omega))
         have C0 : Hid (∀ W : World, Calls Tryz.prog 104 #[.string ⟨#[48, 49, 50, 51, 52, 53, 54, 55, 56, 57, 97, 98, 99, 100, 101, 102]⟩, .int .u8 ((l.getD m 0).toNat : Int)] W fun e w' => e = .returned (.int .i64 (match hexN (l.getD m 0).toNat with | none => -1 | some d => (d : Int))) ∧ w' = W) := hid (fun W => index_any _ W)
         have C1 : Hid (∀ W : World, Calls Tryz.prog 104 #[.string ⟨#[48, 49, 50, 51, 52, 53, 54, 55, 56, 57, 97, 98, 99, 100, 101, 102]⟩, .int .u8 ((l.getD (m + 1) 0).toNat : Int)] W fun e w' => e = .returned (.int .i64 (match hexN (l.getD (m + 1) 0).toNat with | none => -1 | some d => (d : Int))) ∧ w' = W) := hid (fun W => index_any _ W)
         clear IX HAT FE
         generalize (l.getD m 0) = B0 at *
         generalize (l.getD (m + 1) 0) = B1 at *
         have RET : Hid (RR = none → ∀ W, All cs W → All (ownC 5 (.slice none 0 0) (cellsB (RR.getD [])) :: cs) W) := hid (fun h W hW => by rw [h]; exact All.addNil hW)
         cases h0 : hexN B0.toNat with
         | none =>
           rw [h0] at C0 AT
           have RN : Hid (RR = none) := hid (by rw [hR.out, AT.out]; rfl)
           have KC := hid HK.out.tail
           clear HK h0 AT
           generalize (B0.toNat : Int) = b0 at *
           have C1' : Hid (∀ W : World, Calls Tryz.prog 104 #[.string ⟨#[48, 49, 50, 51, 52, 53, 54, 55, 56, 57, 97, 98, 99, 100, 101, 102]⟩, .int .u8 (B1.toNat : Int)] W fun e w' => (∃ q : Int, e = .returned (.int .i64 q)) ∧ w' = W) := hid (fun W => (C1.out W).mono fun e w' h => ⟨⟨_, h.1⟩, h.2⟩)
           clear C1
           generalize (B1.toNat : Int) = b1 at *
           go_wp2_with (first | (go_at_call 104; refine (C0.out _).mono ?_; rintro e w1 ⟨rfl, rfl⟩; simp only) | (go_at_call 104; refine (C1'.out _).mono ?_; rintro e w1 ⟨⟨q, rfl⟩, rfl⟩))
           go_ret2
           exact ⟨_, by rw [RN.out]; rfl, RET.out RN.out _ KC.out⟩
         | some x =>
           cases h1 : hexN B1.toNat with
           | none =>
             rw [h0] at C0 AT
             rw [h1] at C1 AT
             have RN : Hid (RR = none) := hid (by rw [hR.out, AT.out]; rfl)
             have KC := hid HK.out.tail
             have hx0 : ¬ (x : Int) < 0 := by omega
             clear HK h0 h1 AT
             generalize (B0.toNat : Int) = b0 at *
             generalize (B1.toNat : Int) = b1 at *
             go_wp2_with (first | (go_at_call 104; refine (C0.out _).mono ?_; rintro e w1 ⟨rfl, rfl⟩; simp only) | (go_at_call 104; refine (C1.out _).mono ?_; rintro e w1 ⟨rfl, rfl⟩; simp only))
             go_ret2
             exact ⟨_, by rw [RN.out]; rfl, RET.out RN.out _ KC.out⟩
           | some y =>
             rw [h0] at C0 AT
             rw [h1] at C1 AT
             have hx := hexN_lt h0
             have hy := hexN_lt h1
             clear h0 h1 RET
             have ob : bits BinOp.or IntKind.i64 ((x : Int) * 16) (y : Int) % 256 = ((UInt8.ofNat (16 * x + y)).toNat : Int) := by
               have : ∀ a b : Fin 16, bits BinOp.or IntKind.i64 ((a.val : Int) * 16) (b.val : Int) % 256 = ((UInt8.ofNat (16 * a.val + b.val)).toNat : Int) := by decide +kernel
               exact this ⟨x, hx⟩ ⟨y, hy⟩
             obtain ⟨ao6, c6, w6, hr6, A6⟩ := app_byte HK.out (UInt8.ofNat (16 * x + y)) (by have := hacc.out; omega)
             have R6 := hid hr6
             have B6 := hid A6
             have NR : Hid (RR = (hexR (l.drop (m + 2))).map ((acc ++ [UInt8.ofNat (16 * x + y)]) ++ ·)) := hid (by
               rw [hR.out, AT.out, Option.map_map]
               congr 1
               funext z
               simp)
             have hx0 : ¬ (x : Int) < 0 := by omega
             have hy0 : ¬ (y : Int) < 0 := by omega
             clear hr6 A6 HK AT hR
             generalize (B0.toNat : Int) = b0 at *
             generalize (B1.toNat : Int) = b1 at *
             generalize ((UInt8.ofNat (16 * x + y)).toNat : Int) = VB at *
             go_wp2_with (first | (go_at_call 104; refine (C0.out _).mono ?_; rintro e w1 ⟨rfl, rfl⟩; simp only) | (go_at_call 104; refine (C1.out _).mono ?_; rintro e w1 ⟨rfl, rfl⟩; simp only) | (at_builtin; refine wpList_append_run rfl _ _ 32 rfl _ _ _ _ rfl rfl R6.out ?_))
             go_roundw
             case rel => exact ⟨m + 2, _, by omega, by omega, by go_num, hid (by have := hacc.out; simp; omega), NR, B6⟩
             case measure => simp [intOf]; omega
       · have hlt' : ¬ (m : Int) < (n : Int) := by omega
         have em : m = n := by omega
         have RR2 : Hid (RR = some acc) := hid (by rw [hR.out, em, FE.out]; simp)
         have KF : Hid (All (ownC 5 u4 (cellsB (RR.getD [])) :: cs) wr) := hid (by rw [RR2.out]; exact HK.out)
         clear em HK
         go_wp2
         go_ret2
         exact ⟨_, by rw [RR2.out]; rfl, KF.out⟩
set_option linter.unusedVariables false
set_option maxRecDepth 1000000
set_option maxHeartbeats 1600000
def RWPost (P o : Nat) (C : List Value) (ok : Bool) (v : Value) (cs : List Comp) (e : Ending) (w' : World) : Prop := e = .returned (.bool ok) ∧ All (blkC P (C.set o v) 36 :: cs) w'
theorem rw_int {P o : Nat} {C : List Value} {x : List UInt8} {z : Value} {cs : List Comp} {w : World} (hE : En w) (hz : C[o]? = some z) (hx : x.length ≤ 140737488355328) (A : All (blkC P C 36 :: cs) w) :
   Calls Tryz.prog 133 #[thV P (.int o), .string ⟨x.toArray⟩] w (RWPost P o C (numW x).isSome (.int .i64 (((numW x).getD 0 : Nat) : Int)) cs) := by
 have HA := hid A
 have NA := hid (Number_any (l := x) hE.v hx)
 have EA : numA x = .tuple #[.int .i64 (((numW x).getD 0 : Nat) : Int), .bool (numW x).isSome] := by unfold numA; cases numW x <;> rfl
 rw [EA] at NA
 generalize (((numW x).getD 0 : Nat) : Int) = V at *
 generalize (numW x).isSome = B at *
 have SF : Hid (∀ W, All (blkC P C 36 :: cs) W → W.cell? ⟨P, o, none⟩ = some z ∧ W.frozen? ⟨P, o, none⟩ = false ∧ P < W.heap.size) := hid (fun W hW => ⟨cell_in (P := P) hW (t := 36) (List.mem_cons_self) hz, free_at (hW.blk (g := P) (vs := C) (t := 36) (List.mem_cons_self)) o, hW.1.2.2 P (by simp [blkC])⟩)
 clear EA A hE hz
 simp only [thV]
 unfold RWPost
 generalize ByteArray.mk x.toArray = X at *
 have ta0 : ∀ W : World, (Instr.typeAssert (.iface 97 (.pointer (some ⟨P, o, none⟩))) 20 97 true).run Tryz.prog W = .ok (.tuple #[.pointer (some ⟨P, o, none⟩), .bool true]) W := fun W => by kernel_rfl
 go_enter Tryz.func133, Tryz.ntmps133
 go_wp2_with (go_at_call 81; refine NA.out.mono ?_; rintro e w1 ⟨rfl, B1⟩; have K1 := hid (HA.out.later B1); clear B1; obtain ⟨s1, s2, s3⟩ := SF.out _ K1.out; have K2 := hid (K1.out.setBlk o (.int .i64 V)))
 go_ret
 exact ⟨rfl, K2.out⟩
theorem rw_cod {P o : Nat} {C : List Value} {x : List UInt8} {z : Value} {cs : List Comp} {w : World} (hE : En w) (hz : C[o]? = some z) (hx : x.length ≤ 140737488355328) (A : All (blkC P C 36 :: cs) w) :
   Calls Tryz.prog 133 #[thV P (.cod o), .string ⟨x.toArray⟩] w (RWPost P o C (numW x).isSome (.int .i64 (((numW x).getD 0 : Nat) : Int)) cs) := by
 have HA := hid A
 have NA := hid (Number_any (l := x) hE.v hx)
 have EA : numA x = .tuple #[.int .i64 (((numW x).getD 0 : Nat) : Int), .bool (numW x).isSome] := by unfold numA; cases numW x <;> rfl
 rw [EA] at NA
 generalize (((numW x).getD 0 : Nat) : Int) = V at *
 generalize (numW x).isSome = B at *
 have SF : Hid (∀ W, All (blkC P C 36 :: cs) W → W.cell? ⟨P, o, none⟩ = some z ∧ W.frozen? ⟨P, o, none⟩ = false ∧ P < W.heap.size) := hid (fun W hW => ⟨cell_in (P := P) hW (t := 36) (List.mem_cons_self) hz, free_at (hW.blk (g := P) (vs := C) (t := 36) (List.mem_cons_self)) o, hW.1.2.2 P (by simp [blkC])⟩)
 clear EA A hE hz
 simp only [thV]
 unfold RWPost
 generalize ByteArray.mk x.toArray = X at *
 have ta0 : ∀ W : World, (Instr.typeAssert (.iface 98 (.pointer (some ⟨P, o, none⟩))) 20 97 true).run Tryz.prog W = .ok (.tuple #[.pointer none, .bool false]) W := fun W => by kernel_rfl
 have ta1 : ∀ W : World, (Instr.typeAssert (.iface 98 (.pointer (some ⟨P, o, none⟩))) 20 98 true).run Tryz.prog W = .ok (.tuple #[.pointer (some ⟨P, o, none⟩), .bool true]) W := fun W => by kernel_rfl
 go_enter Tryz.func133, Tryz.ntmps133
 go_wp2_with (go_at_call 81; refine NA.out.mono ?_; rintro e w1 ⟨rfl, B1⟩; have K1 := hid (HA.out.later B1); clear B1; obtain ⟨s1, s2, s3⟩ := SF.out _ K1.out; have K2 := hid (K1.out.setBlk o (.int .i64 V)))
 go_ret
 exact ⟨rfl, K2.out⟩
theorem rw_sta {P o : Nat} {C : List Value} {x : List UInt8} {z : Value} {cs : List Comp} {w : World} (hE : En w) (hz : C[o]? = some z) (hx : x.length ≤ 140737488355328) (A : All (blkC P C 36 :: cs) w) :
   Calls Tryz.prog 133 #[thV P (.sta o), .string ⟨x.toArray⟩] w (RWPost P o C (stW x).isSome (.int .i64 (((stW x).getD 0 : Nat) : Int)) cs) := by
 have HA := hid A
 have SF : Hid (∀ W, All (blkC P C 36 :: cs) W → W.cell? ⟨P, o, none⟩ = some z ∧ W.frozen? ⟨P, o, none⟩ = false ∧ P < W.heap.size) := hid (fun W hW => ⟨cell_in (P := P) hW (t := 36) (List.mem_cons_self) hz, free_at (hW.blk (g := P) (vs := C) (t := 36) (List.mem_cons_self)) o, hW.1.2.2 P (by simp [blkC])⟩)
 have HAA : Hid (All (blkC P C 36 :: blkC w.heap.size [.pointer (some ⟨P, o, none⟩)] 140 :: cs) (w.alloc (.cells #[.pointer (some ⟨P, o, none⟩)] 140)).drew) := hid (HA.out.addBlk [.pointer (some ⟨P, o, none⟩)] 140).swap.drew
 have NA : Hid (∀ W, Stt W → Calls Tryz.prog 150 #[.string ⟨x.toArray⟩] W fun e w' => e = .returned (.tuple #[.int .i64 (((stW x).getD 0 : Nat) : Int), .bool (stW x).isSome]) ∧ w' = W) := hid (fun W hW => stOf_any hW)
 have ST : Hid (Stt (w.alloc (.cells #[.pointer (some ⟨P, o, none⟩)] 140)).drew) := hid (by have := hE.s.later (ba w (.cells #[.pointer (some ⟨P, o, none⟩)] 140)); exact ⟨this.1, this.2⟩)
 have I140 : Hid ((Tryz.prog.info? 140).map (·.size) = some (#[Value.pointer (some ⟨P, o, none⟩)] : Array Value).size) := hid (by kernel_rfl)
 generalize (((stW x).getD 0 : Nat) : Int) = V at *
 generalize (stW x).isSome = B at *
 have SF3 : Hid (∀ W, All (blkC P C 36 :: blkC w.heap.size [.pointer (some ⟨P, o, none⟩)] 140 :: cs) W → W.cell? ⟨P, o, none⟩ = some z ∧ W.frozen? ⟨P, o, none⟩ = false ∧ P < W.heap.size) := hid (fun W hW => SF.out W hW.swap.tail)
 have SN : Hid (∀ W C', All (blkC P C' 36 :: blkC w.heap.size [.pointer (some ⟨P, o, none⟩)] 140 :: cs) W → W.cell? ⟨w.heap.size, 0, none⟩ = some (.pointer (some ⟨P, o, none⟩))) := hid (fun W C' hW => cell_in (P := w.heap.size) (o := 0) hW (t := 140) (List.mem_cons_of_mem _ (List.mem_cons_self)) rfl)
 have DRP : Hid (∀ W C', All (blkC P C' 36 :: blkC w.heap.size [.pointer (some ⟨P, o, none⟩)] 140 :: cs) W → All (blkC P C' 36 :: cs) W) := hid (fun W C' hW => hW.swap.tail)
 clear A hE hz SF
 simp only [thV]
 unfold RWPost
 generalize ByteArray.mk x.toArray = X at *
 have ta0 : ∀ W : World, (Instr.typeAssert (.iface 140 (.agg #[.pointer (some ⟨P, o, none⟩)])) 20 97 true).run Tryz.prog W = .ok (.tuple #[.pointer none, .bool false]) W := fun W => by kernel_rfl
 have ta1 : ∀ W : World, (Instr.typeAssert (.iface 140 (.agg #[.pointer (some ⟨P, o, none⟩)])) 20 98 true).run Tryz.prog W = .ok (.tuple #[.pointer none, .bool false]) W := fun W => by kernel_rfl
 have ta2 : ∀ W : World, (Instr.typeAssert (.iface 140 (.agg #[.pointer (some ⟨P, o, none⟩)])) 20 101 true).run Tryz.prog W = .ok (.tuple #[.pointer none, .bool false]) W := fun W => by kernel_rfl
 have ta3 : ∀ W : World, (Instr.typeAssert (.iface 140 (.agg #[.pointer (some ⟨P, o, none⟩)])) 20 140 true).run Tryz.prog W = .ok (.tuple #[.agg #[.pointer (some ⟨P, o, none⟩)], .bool true]) W := fun W => by kernel_rfl
 go_enter Tryz.func133, Tryz.ntmps133
 go_upto_region 17 with (refine wpList_store_row rfl 140 _ _ rfl w.heap.size #[.pointer (some ⟨P, o, none⟩)] rfl rfl 140 _ (heap_alloc_new w _) I140.out rfl rfl ?_; rw [World.setRow_alloc_new])
 refine wp_region_held_drew (S := (fun W => W.cell? ⟨w.heap.size, 0, none⟩ = some (.pointer (some ⟨P, o, none⟩)))) (by kernel_rfl) (SN.out _ _ HAA.out) (fun hHeld => ?_)
 generalize World.drew _ = wd at *
 obtain ⟨s1, s2, s3⟩ := SF3.out _ HAA.out
 have K2 := hid (HAA.out.setBlk o (.int .i64 V))
 refine wpAnyH_take (i := 0) (oi := _) (v := ?_) rfl (by kernel_rfl) (by kernel_rfl) (by kernel_rfl) (fun _ _ _ h => h) (Or.inl ⟨by rfl, ?_⟩) hHeld ?_
 rotate_left
 · intro W hSw
   (try dsimp only at hSw)
   go_simp
   (try with_reducible rfl)
 (try simp only [puS])
 refine wpAnyH_take (i := 1) (oi := _) (v := ?_) rfl (by kernel_rfl) (by kernel_rfl) (by kernel_rfl) (fun _ _ _ h => h) (Or.inl ⟨by rfl, ?_⟩) hHeld ?_
 rotate_left
 · intro W hSw
   (try dsimp only at hSw)
   go_simp
   (try with_reducible rfl)
 (try simp only [puS])
 refine wpAnyH_take (i := 2) (oi := _) (v := ?_) rfl (by kernel_rfl) (by kernel_rfl) (by kernel_rfl) (fun _ _ _ h => h) (Or.inl ⟨by rfl, ?_⟩) hHeld ?_
 rotate_left
 · intro W hSw
   (try dsimp only at hSw)
   go_simp
   (try with_reducible rfl)
 (try simp only [puS])
 refine wpAnyH_ready (rs := [3]) (by kernel_rfl) (by simp) ?_
 refine AllReadyH.cons (o := _) rfl (fun K hK => ?_) AllReadyH.nil
 go_simp
 go_at_call 150; refine (NA.out _ ST.out).mono ?_; rintro e w1 ⟨rfl, h1⟩; subst w1
 refine hK.out _ _ (SN.out _ _ HAA.out) (fun hHeld => ?_)
 clear hK K
 (try simp only [puS])
 refine wpAnyH_take (i := 4) (oi := _) (v := ?_) rfl (by kernel_rfl) (by kernel_rfl) (by kernel_rfl) (fun _ _ _ h => h) (Or.inl ⟨by rfl, ?_⟩) hHeld ?_
 rotate_left
 · intro W hSw
   (try dsimp only at hSw)
   go_simp
   (try with_reducible rfl)
 (try simp only [puS])
 refine wpAnyH_take (i := 5) (oi := _) (v := ?_) rfl (by kernel_rfl) (by kernel_rfl) (by kernel_rfl) (fun _ _ _ h => h) (Or.inl ⟨by rfl, ?_⟩) hHeld ?_
 rotate_left
 · intro W hSw
   (try dsimp only at hSw)
   go_simp
   (try with_reducible rfl)
 (try simp only [puS])
 refine wpAnyH_take (i := 6) (oi := _) (v := ?_) rfl (by kernel_rfl) (by kernel_rfl) (by kernel_rfl) (fun _ _ _ h => h) (Or.inl ⟨by rfl, ?_⟩) hHeld ?_
 rotate_left
 · intro W hSw
   (try dsimp only at hSw)
   go_simp
   (try with_reducible rfl)
 (try simp only [puS])
 refine wpAnyH_take (i := 7) (oi := _) (v := ?_) rfl (by kernel_rfl) (by kernel_rfl) (by kernel_rfl) (fun _ _ _ h => h) (Or.inl ⟨by rfl, ?_⟩) hHeld ?_
 rotate_left
 · intro W hSw
   (try dsimp only at hSw)
   go_simp
   (try with_reducible rfl)
 (try simp only [puS])
 refine wpAnyH_ready (rs := [8]) (by kernel_rfl) (by simp) ?_
 refine AllReadyH.cons (o := _) rfl (fun K hK => ?_) AllReadyH.nil
 go_simp
 skip
 refine hK.out _ _ (SN.out _ _ K2.out) (fun hHeld => ?_)
 clear hK K
 (try simp only [puS])
 refine wpAnyH_take (i := 9) (oi := _) (v := ?_) rfl (by kernel_rfl) (by kernel_rfl) (by kernel_rfl) (fun _ _ _ h => h) (Or.inl ⟨by rfl, ?_⟩) hHeld ?_
 rotate_left
 · intro W hSw
   (try dsimp only at hSw)
   go_simp
   (try with_reducible rfl)
 (try simp only [puS])
 refine wpAnyH_done (by kernel_rfl) ?_ _
 clear hHeld
 go_wp2
 go_ret
 exact ⟨rfl, DRP.out _ _ K2.out⟩
theorem rw_fre {P o : Nat} {C : List Value} {x : List UInt8} {z : Value} {cs : List Comp} {w : World} (hE : En w) (hz : C[o]? = some z) (hx : x.length ≤ 140737488355328) (A : All (blkC P C 36 :: cs) w) :
   Calls Tryz.prog 133 #[thV P (.fre o), .string ⟨x.toArray⟩] w (RWPost P o C (decide (x = [102, 114, 101, 115, 104]) || decide (x = [111, 108, 100])) (.bool (decide (x = [102, 114, 101, 115, 104]))) cs) := by
 have HA := hid A
 have SF : Hid (∀ W, All (blkC P C 36 :: cs) W → W.cell? ⟨P, o, none⟩ = some z ∧ W.frozen? ⟨P, o, none⟩ = false ∧ P < W.heap.size) := hid (fun W hW => ⟨cell_in (P := P) hW (t := 36) (List.mem_cons_self) hz, free_at (hW.blk (g := P) (vs := C) (t := 36) (List.mem_cons_self)) o, hW.1.2.2 P (by simp [blkC])⟩)
 obtain ⟨s1, s2, s3⟩ := SF.out _ HA.out
 have K2 := hid (HA.out.setBlk o (.bool (decide (x = [102, 114, 101, 115, 104]))))
 have s4 : (w.setCell ⟨P, o, none⟩ (.bool (decide (x = [102, 114, 101, 115, 104])))).cell? ⟨P, o, none⟩ = some (.bool (decide (x = [102, 114, 101, 115, 104]))) := by
   rw [cell_at (K2.out.blk (g := P) (vs := C.set o (.bool (decide (x = [102, 114, 101, 115, 104])))) (t := 36) (List.mem_cons_self)), List.getElem?_toArray, List.getElem?_set_self ((List.getElem?_eq_some_iff.1 hz).1)]
 have q1 : ((⟨x.toArray⟩ : ByteArray).toList == [102, 114, 101, 115, 104]) = decide (x = [102, 114, 101, 115, 104]) := by rw [Lib.toList_data, Bool.eq_iff_iff]; simp
 have q2 : ((⟨x.toArray⟩ : ByteArray).toList == [111, 108, 100]) = decide (x = [111, 108, 100]) := by rw [Lib.toList_data, Bool.eq_iff_iff]; simp
 clear A hE hz SF
 simp only [thV]
 unfold RWPost
 generalize decide (x = [102, 114, 101, 115, 104]) = B1 at *
 generalize decide (x = [111, 108, 100]) = B2 at *
 generalize ByteArray.mk x.toArray = X at *
 have ta0 : ∀ W : World, (Instr.typeAssert (.iface 101 (.pointer (some ⟨P, o, none⟩))) 20 97 true).run Tryz.prog W = .ok (.tuple #[.pointer none, .bool false]) W := fun W => by kernel_rfl
 have ta1 : ∀ W : World, (Instr.typeAssert (.iface 101 (.pointer (some ⟨P, o, none⟩))) 20 98 true).run Tryz.prog W = .ok (.tuple #[.pointer none, .bool false]) W := fun W => by kernel_rfl
 have ta2 : ∀ W : World, (Instr.typeAssert (.iface 101 (.pointer (some ⟨P, o, none⟩))) 20 101 true).run Tryz.prog W = .ok (.tuple #[.pointer (some ⟨P, o, none⟩), .bool true]) W := fun W => by kernel_rfl
 cases B1
 all_goals
   go_enter Tryz.func133, Tryz.ntmps133
   go_wp2
   go_ret
   exact ⟨by simp, K2.out⟩
theorem rw_dat {P o : Nat} {C : List Value} {x : List UInt8} {z : Value} {cs : List Comp} {w : World} (hE : En w) (hz : C[o]? = some z) (hx : x.length ≤ 140737488355328) (A : All (blkC P C 36 :: cs) w) :
   Calls Tryz.prog 133 #[thV P (.dat o), .string ⟨x.toArray⟩] w (fun e w1 => ∃ v, e = .returned (.bool (datR x).isSome) ∧ All (blkC P (C.set o v) 36 :: ownC 5 v (cellsB ((datR x).getD [])) :: cs) w1) := by
 have HA := hid A
 have SF : Hid (∀ W, All (blkC P C 36 :: cs) W → W.cell? ⟨P, o, none⟩ = some z ∧ W.frozen? ⟨P, o, none⟩ = false ∧ P < W.heap.size) := hid (fun W hW => ⟨cell_in (P := P) hW (t := 36) (List.mem_cons_self) hz, free_at (hW.blk (g := P) (vs := C) (t := 36) (List.mem_cons_self)) o, hW.1.2.2 P (by simp [blkC])⟩)
 have NA := hid (readData_any (l := x) HA.out hx)
 have SF2 : Hid (∀ v l W, All (ownC 5 v l :: blkC P C 36 :: cs) W → W.cell? ⟨P, o, none⟩ = some z ∧ W.frozen? ⟨P, o, none⟩ = false ∧ P < W.heap.size) := hid (fun v l W hW => SF.out W hW.tail)
 clear A hE hz SF
 simp only [thV]
 generalize ByteArray.mk x.toArray = X at *
 have ta0 : ∀ W : World, (Instr.typeAssert (.iface 141 (.pointer (some ⟨P, o, none⟩))) 20 97 true).run Tryz.prog W = .ok (.tuple #[.pointer none, .bool false]) W := fun W => by kernel_rfl
 have ta1 : ∀ W : World, (Instr.typeAssert (.iface 141 (.pointer (some ⟨P, o, none⟩))) 20 98 true).run Tryz.prog W = .ok (.tuple #[.pointer none, .bool false]) W := fun W => by kernel_rfl
 have ta2 : ∀ W : World, (Instr.typeAssert (.iface 141 (.pointer (some ⟨P, o, none⟩))) 20 101 true).run Tryz.prog W = .ok (.tuple #[.pointer none, .bool false]) W := fun W => by kernel_rfl
 have ta3 : ∀ W : World, (Instr.typeAssert (.iface 141 (.pointer (some ⟨P, o, none⟩))) 20 140 true).run Tryz.prog W = .ok (.tuple #[.agg #[.pointer none], .bool false]) W := fun W => by kernel_rfl
 have ta4 : ∀ W : World, (Instr.typeAssert (.iface 141 (.pointer (some ⟨P, o, none⟩))) 20 141 true).run Tryz.prog W = .ok (.tuple #[.pointer (some ⟨P, o, none⟩), .bool true]) W := fun W => by kernel_rfl
 go_enter Tryz.func133, Tryz.ntmps133
 go_wp2_with (go_at_call 151; refine NA.out.mono ?_; rintro e w1 ⟨v1, rfl, A1⟩; obtain ⟨ao1, c1, rfl⟩ := owns_form A1.1.2.1; obtain ⟨s1, s2, s3⟩ := SF2.out _ _ _ A1; have K2 := hid (A1.swap.setBlk o (.slice ao1 (cellsB ((datR x).getD [])).length c1)); clear A1)
 go_ret
 exact ⟨_, rfl, K2.out⟩
set_option linter.unusedVariables false
set_option maxRecDepth 1000000
set_option maxHeartbeats 3200000
def setOp (C : List Value) (o : Nat) (x : OpR) : List Value := ((((C.set o (.int .i64 x.k)).set (o + 1) (.string ⟨x.nm.toArray⟩)).set (o + 2) (.string ⟨x.tx.toArray⟩)).set (o + 3) (.int .i64 (x.n : Int))).set (o + 4) (.int .i64 (x.m : Int))
theorem readO_le (l : Ws) : (readO l).k ≤ l.length := by
 unfold readO
 split
 · simp [RO.bad]
 · split
   · simp [RO.bad]
   · split
     · simp [RO.bad]
     · split
       · simp [RO.bad]
       · split
         · simp [RO.bad]
         · simp only; omega
theorem rop_any {R P o : Nat} {s : Value} {l : Ws} {C : List Value} {cs : List Comp} {w w0 : World} (hE : ∀ W, All cs W → En W) (h0 : Rt w0 s l) (hi : inC w0 ∈ cs) (hl : l.length ≤ 140737488355328) (hs : ∀ x ∈ l, x.length ≤ 140737488355328) (ho : o + 5 ≤ C.length) (A : All (blkC R [s] 124 :: blkC P C 36 :: cs) w) :
   Calls Tryz.prog 131 #[.pointer (some ⟨R, 0, none⟩), .pointer (some ⟨P, o, none⟩)] w fun e w' => e = .returned (.int .i64 (readO l).e) ∧ ∃ s', Rt w0 s' (l.drop (readO l).k) ∧ All (blkC R [s'] 124 :: blkC P (setOp C o (readO l).o) 36 :: cs) w' := by
 have HA := hid A
 have CO := hid (ReadOp_any (l := l) (s := s) A (fun W hW => h0.later (hW.into (List.mem_cons_of_mem _ (List.mem_cons_of_mem _ hi)))) (fun W hW => (hE W hW.tail.tail).v) (fun W hW => (hE W hW.tail.tail).t) (fun W hW => (hE W hW.tail.tail).f) hl hs)
 have hk := readO_le l
 obtain ⟨ao, c, rfl⟩ := h0.form
 obtain ⟨ao', c', hsl, hR'⟩ := cut_l h0 hk rfl
 have HR := hid hR'
 have FC : Hid (∀ W, All (blkC R [.slice ao l.length c] 124 :: blkC P C 36 :: cs) W → W.cell? ⟨R, 0, none⟩ = some (.slice ao l.length c) ∧ W.frozen? ⟨R, 0, none⟩ = false ∧ R < W.heap.size) := hid (fun W hW => ⟨cell_in (P := R) (o := 0) hW (t := 124) (List.mem_cons_self) rfl, free_at (hW.blk (g := R) (t := 124) (List.mem_cons_self)) 0, hW.1.2.2 R (by simp [blkC])⟩)
 obtain ⟨f1, f2, f3⟩ := FC.out _ A
 unfold ROPost at CO
 obtain ⟨r, hr⟩ : ∃ r, Hid (r = readO l) := ⟨_, hid rfl⟩
 rw [← hr.out] at CO hsl HR ⊢
 clear A hE h0 hi hl hs hk hR' hr
 have SM : Hid (∀ W S ds, All (blkC R [S] 124 :: blkC P C 36 :: ds) W → All (blkC R [S] 124 :: blkC P (setOp C o r.o) 36 :: ds) (W.setCells P o r.o.vals)) := hid (fun W S ds hW => (((((hW.swap.setBlk o (.int .i64 r.o.k)).setBlk (o + 1) (.string ⟨r.o.nm.toArray⟩)).setBlk (o + 2) (.string ⟨r.o.tx.toArray⟩)).setBlk (o + 3) (.int .i64 (r.o.n : Int))).setBlk (o + 4) (.int .i64 (r.o.m : Int))).swap)
 have TH : Hid (∀ W S ds, All (blkC R [S] 124 :: blkC P C 36 :: ds) W → W.there P o r.o.vals.toArray.size) := hid (fun W S ds hW q hq => by
   have hb := hW.blk (g := P) (vs := C) (t := 36) (by simp)
   have hq' : q < 5 := hq
   refine ⟨?_, free_at hb _⟩
   rw [cell_at hb, List.getElem?_toArray, List.getElem?_eq_getElem (by omega)]
   rfl)
 have FC3 : Hid (∀ W S C' ds, All (blkC R [S] 124 :: blkC P C' 36 :: ds) W → W.cell? ⟨R, 0, none⟩ = some S ∧ W.frozen? ⟨R, 0, none⟩ = false ∧ R < W.heap.size) := hid (fun W S C' ds hW => ⟨cell_in (P := R) (o := 0) hW (t := 124) (List.mem_cons_self) rfl, free_at (hW.blk (g := R) (t := 124) (List.mem_cons_self)) 0, hW.1.2.2 R (by simp [blkC])⟩)
 have I24 : Hid ((Tryz.prog.info? 24).map (·.size) = some r.o.vals.toArray.size) := hid (by kernel_rfl)
 have O24 : Hid (r.o.vals.toArray.all (·.oneCell') = true) := hid (by simp [OpR.vals, Value.oneCell'])
 have Z24 : Hid (5 = r.o.vals.toArray.size) := hid rfl
 have EV : opV r.o.k ⟨r.o.nm.toArray⟩ ⟨r.o.tx.toArray⟩ (r.o.n : Int) (r.o.m : Int) = .agg r.o.vals.toArray := rfl
 rw [EV] at CO
 clear EV FC ho
 generalize setOp C o r.o = C2 at *
 generalize r.o.vals = VL at *
 generalize l.length = n at *
 go_enter Tryz.func131, Tryz.ntmps131
 go_upto_region 2 with (first | (go_at_call 148; refine CO.out.mono ?_; rintro e w1 ⟨rfl, A1⟩; have K1 := hid A1; clear A1) | (refine wpList_store_row rfl 24 _ _ rfl w1.heap.size VL.toArray rfl rfl 24 _ (heap_alloc_new w1 _) I24.out Z24.out O24.out ?_; rw [World.setRow_alloc_new]))
 have K2 : Hid (All (blkC R [.slice ao n c] 124 :: blkC P C 36 :: blkC w1.heap.size VL 24 :: cs) (w1.alloc (.cells VL.toArray 24)).drew) := hid ((K1.out.addBlk VL 24).perm (by exact (List.Perm.swap _ _ _).trans ((List.Perm.swap _ _ _).cons _))).drew
 have RG : Hid (∀ W S C', All (blkC R [S] 124 :: blkC P C' 36 :: blkC w1.heap.size VL 24 :: cs) W → W.rangeAt w1.heap.size 0 VL) := hid (fun W S C' hW q u hu => by
   rw [Nat.zero_add]
   exact cell_in (P := w1.heap.size) hW (t := 24) (List.mem_cons_of_mem _ (List.mem_cons_of_mem _ (List.mem_cons_self))) hu)
 clear K1 CO f1 f2 f3
 refine wp_region_held_drew (S := (fun W => W.rangeAt w1.heap.size 0 VL)) (by kernel_rfl) (RG.out _ _ _ K2.out) (fun hHeld => ?_)
 generalize World.drew _ = wd at *
 obtain ⟨g1, g2, g3⟩ := FC3.out _ _ _ _ K2.out
 have K3 := hid (SM.out _ _ _ K2.out)
 have T2 := hid (TH.out _ _ _ K2.out)
 obtain ⟨j1, j2, j3⟩ := FC3.out _ _ _ _ K3.out
 have K4 := hid (K3.out.setBlk 0 (.slice ao' (n - r.k) c'))
 refine wpAnyH_take (i := 0) (oi := _) (v := ?_) rfl (by kernel_rfl) (by kernel_rfl) (by kernel_rfl) (fun _ _ _ h => h) (Or.inl ⟨by rfl, ?_⟩) hHeld ?_
 rotate_left
 · intro W hSw
   (try dsimp only at hSw)
   go_simp
   (try with_reducible rfl)
 (try simp only [puS])
 refine wpAnyH_take (i := 1) (oi := _) (v := ?_) rfl (by kernel_rfl) (by kernel_rfl) (by kernel_rfl) (fun _ _ _ h => h) (Or.inl ⟨by rfl, ?_⟩) hHeld ?_
 rotate_left
 · intro W hSw
   (try dsimp only at hSw)
   go_simp
   (try with_reducible rfl)
 (try simp only [puS])
 refine wpAnyH_take (i := 3) (oi := _) (v := ?_) rfl (by kernel_rfl) (by kernel_rfl) (by kernel_rfl) (fun _ _ _ h => h) (Or.inl ⟨by rfl, ?_⟩) hHeld ?_
 rotate_left
 · intro W hSw
   (try dsimp only at hSw)
   go_simp
   (try with_reducible rfl)
 (try simp only [puS])
 refine wpAnyH_take (i := 4) (oi := _) (v := ?_) rfl (by kernel_rfl) (by kernel_rfl) (by kernel_rfl) (fun _ _ _ h => h) (Or.inl ⟨by rfl, ?_⟩) hHeld ?_
 rotate_left
 · intro W hSw
   (try dsimp only at hSw)
   go_simp
   (try with_reducible rfl)
 (try simp only [puS])
 refine wpAnyH_take (i := 5) (oi := _) (v := ?_) rfl (by kernel_rfl) (by kernel_rfl) (by kernel_rfl) (fun _ _ _ h => h) (Or.inl ⟨by rfl, ?_⟩) hHeld ?_
 rotate_left
 · intro W hSw
   (try dsimp only at hSw)
   go_simp
   (try with_reducible rfl)
 (try simp only [puS])
 refine wpAnyH_take (i := 7) (oi := _) (v := ?_) rfl (by kernel_rfl) (by kernel_rfl) (by kernel_rfl) (fun _ _ _ h => h) (Or.inl ⟨by rfl, ?_⟩) hHeld ?_
 rotate_left
 · intro W hSw
   (try dsimp only at hSw)
   go_simp
   (try with_reducible rfl)
 (try simp only [puS])
 refine wpAnyH_take (i := 2) (oi := _) (v := .agg VL.toArray) rfl (by kernel_rfl) (by kernel_rfl) (by kernel_rfl) (fun _ _ _ h => h) (yieldsIf_load_mid (by rfl) 24 (.tmp 5) rfl w1.heap.size 0 rfl VL _ (fun W hSw => hSw) Tryz.underlying24 rfl I24.out) hHeld ?_
 (try simp only [puS])
 refine wpAnyH_ready (rs := [6]) (by kernel_rfl) (by simp) ?_
 refine AllReadyH.cons (o := _) rfl (fun K hK => ?_) AllReadyH.nil
 go_simp
 skip
 refine hK.out _ _ (RG.out _ _ _ K2.out) (fun hHeld => ?_)
 clear hK K
 (try simp only [puS])
 refine wpAnyH_take (i := 8) (oi := _) (v := ?_) rfl (by kernel_rfl) (by kernel_rfl) (by kernel_rfl) (fun _ _ _ h => h) (Or.inl ⟨by rfl, ?_⟩) hHeld ?_
 rotate_left
 · intro W hSw
   (try dsimp only at hSw)
   go_simp
   (try with_reducible rfl)
 (try simp only [puS])
 refine wpAnyH_take (i := 9) (oi := _) (v := ?_) rfl (by kernel_rfl) (by kernel_rfl) (by kernel_rfl) (fun _ _ _ h => h) (Or.inl ⟨by rfl, ?_⟩) hHeld ?_
 rotate_left
 · intro W hSw
   (try dsimp only at hSw)
   go_simp
   (try with_reducible rfl)
 (try simp only [puS])
 refine wpAnyH_ready (rs := [10]) (by kernel_rfl) (by simp) ?_
 refine AllReadyH.cons (o := _) rfl (fun K hK => ?_) AllReadyH.nil
 rw [if_pos (by rfl)]
 refine wp_store_mid 24 _ _ rfl P o VL.toArray rfl rfl T2.out I24.out O24.out ?_; rw [List.toList_toArray]
 refine hK.out _ _ (RG.out _ _ _ K3.out) (fun hHeld => ?_)
 clear hK K
 (try simp only [Act.put])
 refine wpAnyH_take (i := 11) (oi := _) (v := ?_) rfl (by kernel_rfl) (by kernel_rfl) (by kernel_rfl) (fun _ _ _ h => h) (Or.inl ⟨by rfl, ?_⟩) hHeld ?_
 rotate_left
 · intro W hSw
   (try dsimp only at hSw)
   go_simp
   (try with_reducible rfl)
 (try simp only [puS])
 refine wpAnyH_take (i := 12) (oi := _) (v := ?_) rfl (by kernel_rfl) (by kernel_rfl) (by kernel_rfl) (fun _ _ _ h => h) (Or.inl ⟨by rfl, ?_⟩) hHeld ?_
 rotate_left
 · intro W hSw
   (try dsimp only at hSw)
   go_simp
   (try with_reducible rfl)
 (try simp only [puS])
 refine wpAnyH_ready (rs := [13]) (by kernel_rfl) (by simp) ?_
 refine AllReadyH.cons (o := _) rfl (fun K hK => ?_) AllReadyH.nil
 go_simp
 skip
 refine hK.out _ _ (RG.out _ _ _ K4.out) (fun hHeld => ?_)
 clear hK K
 (try simp only [puS])
 refine wpAnyH_done (by kernel_rfl) ?_ _
 clear hHeld
 have K5 := hid (K4.out.perm (((List.Perm.swap _ _ _).cons _).trans (List.Perm.swap _ _ _))).tail
 clear K4 K3 K2
 go_wp2
 go_ret
 exact ⟨rfl, _, HR.out, K5.out⟩
def setRes (C : List Value) (o : Nat) (c n : Int) (v : Value) : List Value := ((C.set o (.int .i64 c)).set (o + 1) (.int .i64 n)).set (o + 2) v
theorem readR_le (l : Ws) : (readR l).k ≤ l.length := by
 unfold readR
 split
 · simp [RR.bad]
 · split
   · simp [RR.bad]
   · unfold readD
     split
     · simp [RR.bad]
     · split
       · simp [RR.bad]
       · split
         · simp [RR.bad]
         · split
           · simp [RR.bad]
           · split
             · simp [RR.bad]
             · split
               · simp [RR.bad]
               · simp only; omega
   · simp
theorem rres_any {R P o : Nat} {s : Value} {l : Ws} {C : List Value} {cs : List Comp} {w w0 : World} (hE : ∀ W, All cs W → En W) (h0 : Rt w0 s l) (hi : inC w0 ∈ cs) (hl : l.length * 16 ≤ 140737488355328) (hs : ∀ x ∈ l, x.length ≤ 140737488355328) (ho : o + 3 ≤ C.length) (A : All (blkC R [s] 124 :: blkC P C 36 :: cs) w) :
   Calls Tryz.prog 132 #[.pointer (some ⟨R, 0, none⟩), .pointer (some ⟨P, o, none⟩)] w fun e w' => e = .returned (.int .i64 (readR l).e) ∧ ∃ s' v, Rt w0 s' (l.drop (readR l).k) ∧ All (blkC R [s'] 124 :: blkC P (setRes C o (readR l).c (readR l).n v) 36 :: ownC 9 v (txW (readR l).items) :: cs) w' := by
 have HA := hid A
 have CO := hid (ReadResult_any (l := l) (s := s) A (hE _ A.tail.tail).v (hE _ A.tail.tail).c (h0.later (A.into (List.mem_cons_of_mem _ (List.mem_cons_of_mem _ hi)))) hl hs)
 have hk := readR_le l
 obtain ⟨ao, c, rfl⟩ := h0.form
 obtain ⟨ao', c', hsl, hR'⟩ := cut_l h0 hk rfl
 have HR := hid hR'
 have FC3 : Hid (∀ W S C' ds, All (blkC R [S] 124 :: blkC P C' 36 :: ds) W → W.cell? ⟨R, 0, none⟩ = some S ∧ W.frozen? ⟨R, 0, none⟩ = false ∧ R < W.heap.size) := hid (fun W S C' ds hW => ⟨cell_in (P := R) (o := 0) hW (t := 124) (List.mem_cons_self) rfl, free_at (hW.blk (g := R) (t := 124) (List.mem_cons_self)) 0, hW.1.2.2 R (by simp [blkC])⟩)
 obtain ⟨f1, f2, f3⟩ := FC3.out _ _ _ _ A
 unfold RRPost at CO
 obtain ⟨r, hr⟩ : ∃ r, Hid (r = readR l) := ⟨_, hid rfl⟩
 rw [← hr.out] at CO hsl HR ⊢
 clear A hE h0 hi hl hs hk hR' hr
 have SM : Hid (∀ W S ds V1, All (blkC R [S] 124 :: blkC P C 36 :: ds) W → All (blkC R [S] 124 :: blkC P (setRes C o r.c r.n V1) 36 :: ds) (W.setCells P o [.int .i64 r.c, .int .i64 r.n, V1])) := hid (fun W S ds V1 hW => (((hW.swap.setBlk o (.int .i64 r.c)).setBlk (o + 1) (.int .i64 r.n)).setBlk (o + 2) V1).swap)
 have TH : Hid (∀ W S ds (V1 : Value), All (blkC R [S] 124 :: blkC P C 36 :: ds) W → W.there P o (#[.int .i64 r.c, .int .i64 r.n, V1] : Array Value).size) := hid (fun W S ds V1 hW q hq => by
   have hb := hW.blk (g := P) (vs := C) (t := 36) (by simp)
   have hq' : q < 3 := hq
   refine ⟨?_, free_at hb _⟩
   rw [cell_at hb, List.getElem?_toArray, List.getElem?_eq_getElem (by omega)]
   rfl)
 have I29 : Hid (∀ V1 : Value, (Tryz.prog.info? 29).map (·.size) = some ([.int .i64 r.c, .int .i64 r.n, V1] : List Value).length) := hid (fun V1 => by kernel_rfl)
 clear ho
 generalize l.length = n at *
 go_enter Tryz.func132, Tryz.ntmps132
 go_upto_region 2 with (first | (go_at_call 149; refine CO.out.mono ?_; rintro e w1 ⟨V1, rfl, A1⟩; have O29 : Hid ((#[.int .i64 r.c, .int .i64 r.n, V1] : Array Value).all (·.oneCell') = true) := hid (by (obtain ⟨a1, b1, e1⟩ := owns_form A1.1.2.1); rw [e1]; simp [Value.oneCell']); have K1 := hid A1; clear A1) | (refine wpList_store_row rfl 29 _ _ rfl w1.heap.size #[.int .i64 r.c, .int .i64 r.n, V1] rfl rfl 29 _ (heap_alloc_new w1 _) (I29.out V1) rfl O29.out ?_; rw [World.setRow_alloc_new]))
 have K2 : Hid (All (blkC R [.slice ao n c] 124 :: blkC P C 36 :: blkC w1.heap.size [.int .i64 r.c, .int .i64 r.n, V1] 29 :: ownC 9 V1 (txW r.items) :: cs) (w1.alloc (.cells #[.int .i64 r.c, .int .i64 r.n, V1] 29)).drew) := hid ((K1.out.addBlk [.int .i64 r.c, .int .i64 r.n, V1] 29).perm (List.perm_append_comm (l₁ := [blkC w1.heap.size [.int .i64 r.c, .int .i64 r.n, V1] 29, ownC 9 V1 (txW r.items)]) (l₂ := [blkC R [.slice ao n c] 124, blkC P C 36]) |>.append_right cs)).drew
 have RG : Hid (∀ W S C', All (blkC R [S] 124 :: blkC P C' 36 :: blkC w1.heap.size [.int .i64 r.c, .int .i64 r.n, V1] 29 :: ownC 9 V1 (txW r.items) :: cs) W → W.rangeAt w1.heap.size 0 [.int .i64 r.c, .int .i64 r.n, V1]) := hid (fun W S C' hW q u hu => by
   rw [Nat.zero_add]
   exact cell_in (P := w1.heap.size) hW (t := 29) (List.mem_cons_of_mem _ (List.mem_cons_of_mem _ (List.mem_cons_self))) hu)
 clear K1 CO f1 f2 f3
 refine wp_region_held_drew (S := (fun W => W.rangeAt w1.heap.size 0 [.int .i64 r.c, .int .i64 r.n, V1])) (by kernel_rfl) (RG.out _ _ _ K2.out) (fun hHeld => ?_)
 generalize World.drew _ = wd at *
 obtain ⟨g1, g2, g3⟩ := FC3.out _ _ _ _ K2.out
 have K3 := hid (SM.out _ _ _ V1 K2.out)
 have T2 := hid (TH.out _ _ _ V1 K2.out)
 obtain ⟨j1, j2, j3⟩ := FC3.out _ _ _ _ K3.out
 have K4 := hid (K3.out.setBlk 0 (.slice ao' (n - r.k) c'))
 refine wpAnyH_take (i := 0) (oi := _) (v := ?_) rfl (by kernel_rfl) (by kernel_rfl) (by kernel_rfl) (fun _ _ _ h => h) (Or.inl ⟨by rfl, ?_⟩) hHeld ?_
 rotate_left
 · intro W hSw
   (try dsimp only at hSw)
   go_simp
   (try with_reducible rfl)
 (try simp only [puS])
 refine wpAnyH_take (i := 1) (oi := _) (v := ?_) rfl (by kernel_rfl) (by kernel_rfl) (by kernel_rfl) (fun _ _ _ h => h) (Or.inl ⟨by rfl, ?_⟩) hHeld ?_
 rotate_left
 · intro W hSw
   (try dsimp only at hSw)
   go_simp
   (try with_reducible rfl)
 (try simp only [puS])
 refine wpAnyH_take (i := 3) (oi := _) (v := ?_) rfl (by kernel_rfl) (by kernel_rfl) (by kernel_rfl) (fun _ _ _ h => h) (Or.inl ⟨by rfl, ?_⟩) hHeld ?_
 rotate_left
 · intro W hSw
   (try dsimp only at hSw)
   go_simp
   (try with_reducible rfl)
 (try simp only [puS])
 refine wpAnyH_take (i := 4) (oi := _) (v := ?_) rfl (by kernel_rfl) (by kernel_rfl) (by kernel_rfl) (fun _ _ _ h => h) (Or.inl ⟨by rfl, ?_⟩) hHeld ?_
 rotate_left
 · intro W hSw
   (try dsimp only at hSw)
   go_simp
   (try with_reducible rfl)
 (try simp only [puS])
 refine wpAnyH_take (i := 5) (oi := _) (v := ?_) rfl (by kernel_rfl) (by kernel_rfl) (by kernel_rfl) (fun _ _ _ h => h) (Or.inl ⟨by rfl, ?_⟩) hHeld ?_
 rotate_left
 · intro W hSw
   (try dsimp only at hSw)
   go_simp
   (try with_reducible rfl)
 (try simp only [puS])
 refine wpAnyH_take (i := 7) (oi := _) (v := ?_) rfl (by kernel_rfl) (by kernel_rfl) (by kernel_rfl) (fun _ _ _ h => h) (Or.inl ⟨by rfl, ?_⟩) hHeld ?_
 rotate_left
 · intro W hSw
   (try dsimp only at hSw)
   go_simp
   (try with_reducible rfl)
 (try simp only [puS])
 refine wpAnyH_take (i := 2) (oi := _) (v := .agg [.int .i64 r.c, .int .i64 r.n, V1].toArray) rfl (by kernel_rfl) (by kernel_rfl) (by kernel_rfl) (fun _ _ _ h => h) (yieldsIf_load_mid (by rfl) 29 (.tmp 5) rfl w1.heap.size 0 rfl [.int .i64 r.c, .int .i64 r.n, V1] _ (fun W hSw => hSw) Tryz.underlying29 rfl (I29.out V1)) hHeld ?_
 (try simp only [puS])
 refine wpAnyH_ready (rs := [6]) (by kernel_rfl) (by simp) ?_
 refine AllReadyH.cons (o := _) rfl (fun K hK => ?_) AllReadyH.nil
 go_simp
 skip
 refine hK.out _ _ (RG.out _ _ _ K2.out) (fun hHeld => ?_)
 clear hK K
 (try simp only [puS])
 refine wpAnyH_take (i := 8) (oi := _) (v := ?_) rfl (by kernel_rfl) (by kernel_rfl) (by kernel_rfl) (fun _ _ _ h => h) (Or.inl ⟨by rfl, ?_⟩) hHeld ?_
 rotate_left
 · intro W hSw
   (try dsimp only at hSw)
   go_simp
   (try with_reducible rfl)
 (try simp only [puS])
 refine wpAnyH_take (i := 9) (oi := _) (v := ?_) rfl (by kernel_rfl) (by kernel_rfl) (by kernel_rfl) (fun _ _ _ h => h) (Or.inl ⟨by rfl, ?_⟩) hHeld ?_
 rotate_left
 · intro W hSw
   (try dsimp only at hSw)
   go_simp
   (try with_reducible rfl)
 (try simp only [puS])
 refine wpAnyH_ready (rs := [10]) (by kernel_rfl) (by simp) ?_
 refine AllReadyH.cons (o := _) rfl (fun K hK => ?_) AllReadyH.nil
 rw [if_pos (by rfl)]
 refine wp_store_mid 29 _ _ rfl P o #[.int .i64 r.c, .int .i64 r.n, V1] rfl rfl T2.out (I29.out V1) O29.out ?_
 refine hK.out _ _ (RG.out _ _ _ K3.out) (fun hHeld => ?_)
 clear hK K
 (try simp only [Act.put])
 refine wpAnyH_take (i := 11) (oi := _) (v := ?_) rfl (by kernel_rfl) (by kernel_rfl) (by kernel_rfl) (fun _ _ _ h => h) (Or.inl ⟨by rfl, ?_⟩) hHeld ?_
 rotate_left
 · intro W hSw
   (try dsimp only at hSw)
   go_simp
   (try with_reducible rfl)
 (try simp only [puS])
 refine wpAnyH_take (i := 12) (oi := _) (v := ?_) rfl (by kernel_rfl) (by kernel_rfl) (by kernel_rfl) (fun _ _ _ h => h) (Or.inl ⟨by rfl, ?_⟩) hHeld ?_
 rotate_left
 · intro W hSw
   (try dsimp only at hSw)
   go_simp
   (try with_reducible rfl)
 (try simp only [puS])
 refine wpAnyH_ready (rs := [13]) (by kernel_rfl) (by simp) ?_
 refine AllReadyH.cons (o := _) rfl (fun K hK => ?_) AllReadyH.nil
 go_simp
 skip
 refine hK.out _ _ (RG.out _ _ _ K4.out) (fun hHeld => ?_)
 clear hK K
 (try simp only [puS])
 refine wpAnyH_done (by kernel_rfl) ?_ _
 clear hHeld
 have K5 := hid (K4.out.perm (((List.Perm.swap _ _ _).cons _).trans (List.Perm.swap _ _ _))).tail
 clear K4 K3 K2
 go_wp2
 go_ret
 exact ⟨rfl, _, HR.out, _, K5.out⟩
end Go.Proofs.YtfeppannfcbakaaGreatDoor

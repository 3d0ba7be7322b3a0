import Derived.Test.YtblojlaifnmimaaGreatDoorRg
namespace Go.Proofs.YtblojlaifnmimaaGreatDoor
open Go.RowKit
set_option linter.unusedVariables false

theorem cfgL_42 {c : List Int} (h : cfgL c ≠ 0) : cfgL c = 42 := by
  unfold cfgL cfgE at *
  split at h
  · exact absurd rfl h
  · rw [if_neg (by assumption)]
theorem cfg_new (W : World) : (W.alloc (.cells #[.int .i64 0, .int .i64 0, .int .i64 0, .int .i64 0, .int .i64 0, .int .i64 0, .int .i64 0, .int .i64 0, .int .i64 0, .int .i64 0] 24)).heap[W.heap.size]? = some (.cells #[.int .i64 0, .int .i64 0, .int .i64 0, .int .i64 0, .int .i64 0, .int .i64 0, .int .i64 0, .int .i64 0, .int .i64 0, .int .i64 0] 24 (0, 0)) := heap_alloc_new W _
theorem lineT_K {c : List Int} {ss : List Sp} {k : Nat} {s : Sp} (h : ss[k]? = some s) (h0 : stepE s = 0) : textK c ss (k + 1) = textK c ss k ++ lineT s := by
  rw [textK_snoc c h]
  unfold lineT
  rw [if_neg (by rw [h0]; simp)]
set_option maxHeartbeats 6400000 in
set_option maxRecDepth 1000000 in
theorem rPrint_any {c : List Int} {v : Value} {ss : List Sp} {w : World} (hc : c.length = 10) (hv : Sps w v ss) (hI : ∀ s ∈ ss, spI s) (hn : ss.length ≤ 140737488355328) :
    Calls Tryz.prog 14 #[.agg (cI c ++ [v]).toArray] w fun e w' => e = .returned (.tuple #[.string ⟨(printT c ss).toArray⟩, .int .i64 (printE c ss)]) ∧ Below w.heap.size w w' := by
  have A0 := hid ((All.came w).addBlk (cI c ++ [v]) 27)
  obtain ⟨ao, cc, rfl, hcc, hx⟩ := hv
  have C := hid (cfgR_any (c := c) (w := w.alloc (.cells (cI c ++ [Value.slice ao ss.length cc]).toArray 27)) hc)
  have I24 : Hid ((Tryz.prog.info? 24).map (·.size) = some (cI c).length) := hid (by rw [Tryz.i24, cI_len, hc])
  have RG : Hid (∀ ds W, All (ds ++ [blkC w.heap.size (cI c ++ [Value.slice ao ss.length cc]) 27, inC w]) W → W.rangeAt w.heap.size 0 (cI c) ∧ W.cell? ⟨w.heap.size, 10, none⟩ = some (.slice ao ss.length cc)) := hid (fun ds W h => by
    obtain ⟨r, y, _⟩ := pl_range h (List.mem_append_right _ (.head _)) hc
    exact ⟨r, y⟩)
  have G0 := hid (RG.out [] _ A0.out).1
  by_cases hC : cfgL c ≠ 0
  · have e1 : printE c ss = 42 := by unfold printE; rw [if_pos hC, cfgL_42 hC]
    have e2 : printT c ss = [] := by unfold printT; rw [e1]; rfl
    rw [e1, e2]
    rw [cfgL_42 hC] at C
    clear e1 e2 hC hc hx hI RG
    generalize hPV : cI c ++ [Value.slice ao ss.length cc] = PV at *
    clear hPV
    generalize cI c = CC at *
    go_enter Tryz.func14, Tryz.ntmps14
    go_wp2_with (first | (refine wpList_load_mid rfl 24 _ rfl w.heap.size 0 rfl CC _ G0.out Tryz.underlying24 rfl I24.out ?_) | (go_at_call 22; refine C.out.mono ?_; rintro e w1 ⟨rfl, B1⟩; have K1 := hid (A0.out.later B1); clear B1))
    go_ret2
    exact ⟨rfl, K1.out.into (by simp)⟩
  · have hC0 : cfgL c = 0 := Classical.byContradiction hC
    rw [hC0] at C
    by_cases h4 : 4000 < ss.length
    · have e1 : printE c ss = 172 := by unfold printE; rw [if_neg hC, if_pos h4]
      have e2 : printT c ss = [] := by unfold printT; rw [e1]; rfl
      rw [e1, e2]
      have h4' : (4000 : Int) < (ss.length : Int) := by omega
      clear e1 e2 hC hc hx hI hC0
      generalize hPV : cI c ++ [Value.slice ao ss.length cc] = PV at *
      clear hPV
      generalize cI c = CC at *
      generalize hN : ss.length = n at *
      go_enter Tryz.func14, Tryz.ntmps14
      go_wp2_with (first | (refine wpList_load_mid rfl 24 _ rfl w.heap.size 0 rfl CC _ G0.out Tryz.underlying24 rfl I24.out ?_) | (go_at_call 22; refine C.out.mono ?_; rintro e w1 ⟨rfl, B1⟩; have K1 := hid (A0.out.later B1); clear B1; obtain ⟨_, y10⟩ := RG.out [] _ K1.out; refine Hid.out ?_))
      refine hid ?_
      go_wp2
      go_ret2
      exact ⟨rfl, K1.out.into (by simp)⟩
    · have h4' : ¬ (4000 : Int) < (ss.length : Int) := by omega
      have hcn := cfgL_nat hc hC0
      have ePE : printE c ss = if badS ss ≠ 0 then badS ss else if 65536 < (textP c ss).length then 172 else 0 := by unfold printE; rw [if_neg hC, if_neg h4]
      obtain ⟨cg, hcg⟩ : ∃ cg : Nat → Int, ∀ j, cg j = c.getD j 0 := ⟨fun j => c.getD j 0, fun j => rfl⟩
      obtain ⟨dg, hdg⟩ : ∃ dg : Nat → List UInt8, ∀ j, dg j = Lib.decDigits (cg j).toNat := ⟨fun j => _, fun j => rfl⟩
      obtain ⟨HF, hHF⟩ : ∃ HF : Nat → Ws, ∀ j, HF j = fleetW :: (c.take j).map (fun n => Lib.decDigits n.toNat) := ⟨fun j => _, fun j => rfl⟩
      have DG : Hid (∀ j, j < 10 → ∀ W, Calls Tryz.prog 30 #[.int .i64 (cg j)] W fun e w' => e = .returned (.string ⟨(dg j).toArray⟩) ∧ Below W.heap.size W w') := hid (fun j hj W => by
        have hm : c.getD j 0 ∈ c := by rw [List.getD_eq_getElem?_getD, List.getElem?_eq_getElem (by omega)]; exact List.getElem_mem _
        have := hcn _ hm
        rw [hdg, hcg]
        have h2 := Digits_any (c.getD j 0).toNat W (by omega)
        rwa [Int.toNat_of_nonneg (by omega)] at h2)
      have HF0 : Hid ([fleetW] = HF 0) := hid (by rw [hHF]; simp)
      have HFs : Hid (∀ j, j < 10 → HF j ++ [dg j] = HF (j + 1)) := hid (fun j hj => by
        have ht : c.take (j + 1) = c.take j ++ [c.getD j 0] := by
          rw [List.take_add_one, List.getElem?_eq_getElem (by omega), List.getD_eq_getElem?_getD, List.getElem?_eq_getElem (by omega)]
          rfl
        rw [hHF, hHF, hdg, hcg, ht, List.map_append]
        rfl)
      have HFl : Hid (∀ j, j ≤ 10 → (HF j).length = j + 1) := hid (fun j hj => by rw [hHF]; simp; omega)
      have HF10 : HF 10 = headWs c := by rw [hHF, List.take_of_length_le (by omega)]; rfl
      have hlj : lenJ (headWs c) ≤ 3000 := by
        have h3 := lenJ_small (headWs_mem hcn)
        rw [headWs_len hc] at h3
        omega
      have JN : Hid (∀ v ds W, All (ownC 9 v (txW (HF 10)) :: ds) W → Calls Tryz.prog 31 #[v] W fun e w' => e = .returned (.string ⟨(joinW (headWs c)).toArray⟩) ∧ Below W.heap.size W w') := hid (fun v ds W h => by
        have r := rt_mem h (.head _)
        rw [HF10] at r
        exact rJoin_any r (by rw [headWs_len hc]; omega) (by omega))
      obtain ⟨N0, f0, g0, e0⟩ := cat_ex (S := ⟨(joinW (headWs c)).toArray⟩) (T := ⟨#[10]⟩) (b := [10]) rfl rfl (by
        have h1 := joinW_len (headWs c) (headWs c).length (Nat.le_refl _)
        rw [List.take_length] at h1
        simp only [List.length_cons, List.length_nil]
        omega)
      have T0 : Hid (N0 = ⟨(textK c ss 0).toArray⟩) := hid (by rw [e0]; unfold textK textP lineP; simp)
      have EC : Hid ((cI c).toArray = #[.int .i64 (cg 0), .int .i64 (cg 1), .int .i64 (cg 2), .int .i64 (cg 3), .int .i64 (cg 4), .int .i64 (cg 5), .int .i64 (cg 6), .int .i64 (cg 7), .int .i64 (cg 8), .int .i64 (cg 9)]) := hid (by
        obtain ⟨a0, a1, a2, a3, a4, a5, a6, a7, a8, a9, rfl⟩ := ten hc
        simp only [hcg]
        rfl)
      have CJ : Hid (∀ j, j < 10 → (cI c)[j]? = some (.int .i64 (cg j))) := hid (fun j hj => by
        rw [hcg]
        unfold cI
        rw [List.getElem?_map, List.getD_eq_getElem?_getD, List.getElem?_eq_getElem (by omega)]
        rfl)
      have J24 : Hid ((Tryz.prog.info? 24).map (·.size) = some (cI c).toArray.size) := hid (by rw [Tryz.i24, List.size_toArray, cI_len, hc])
      have O24 := hid (cI_one c)
      have Z24 : Hid ((#[.int .i64 0, .int .i64 0, .int .i64 0, .int .i64 0, .int .i64 0, .int .i64 0, .int .i64 0, .int .i64 0, .int .i64 0, .int .i64 0] : Array Value).size = (cI c).toArray.size) := hid (by show 10 = _; rw [List.size_toArray, cI_len, hc])
      have LN : Hid (∀ s ds W, s ∈ ss → All ds W → Calls Tryz.prog 32 #[.agg s.vals.toArray] W fun e w' => e = .returned (.tuple #[.string ⟨(lineT s).toArray⟩, .int .i64 (stepE s)]) ∧ All ds w') := hid (fun s ds W hs h => line_ref h (hI s hs))
      have TL := hid (textK_len (ss := ss) hc hcn hI)
      have LT : Hid (∀ s, s ∈ ss → (lineT s).length ≤ 10000) := hid (fun s hs => by
        unfold lineT
        split
        · simp
        · have h1 := lenJ_small (stepWs_mem (hI s hs))
          have h2 := stepWs_len s
          have h3 := lineP_len (ws := stepWs s) (n := 4000) (by omega)
          omega)
      have ST := hid hx
      clear hx hC hC0 h4 hcn hI HF10 hHF hdg hcg e0 hlj
      have BL : Hid (∀ k s, ss[k]? = some s → badS (ss.drop k) = if stepE s ≠ 0 then stepE s else badS (ss.drop (k + 1))) := hid (fun k s h => badS_at h)
      have B0 : Hid (badS ss = badS (ss.drop 0)) := hid rfl
      have TN : Hid (textK c ss ss.length = textP c ss) := hid (by unfold textK; rw [List.take_length])
      have DN : Hid (ss.drop ss.length = []) := hid (by simp)
      have PT : Hid (printT c ss = if printE c ss ≠ 0 then [] else textP c ss) := hid rfl
      have EPE := hid ePE
      have FLT : Hid (∀ W ds, All ds W → All (ownC 9 (.slice (some ⟨W.heap.size, 0, none⟩) 1 1) (txW [fleetW]) :: ds) (W.alloc (.cells #[.string ⟨#[102, 108, 101, 101, 116]⟩] 9))) := hid (fun W ds h => own_big h [fleetW] (by decide))
      clear ePE
      generalize printE c ss = PE at *
      generalize printT c ss = PT' at *
      generalize hBS : badS ss = BS at *
      clear hBS
      generalize hPV : cI c ++ [Value.slice ao ss.length cc] = PV at *
      clear hPV
      generalize cI c = CC at *
      generalize ByteArray.mk (joinW (headWs c)).toArray = XH at *
      go_enter Tryz.func14, Tryz.ntmps14
      go_upto_region 3 with (first | (refine wpList_load_mid rfl 24 _ rfl w.heap.size 0 rfl CC _ G0.out Tryz.underlying24 rfl I24.out ?_) | (go_at_call 22; refine C.out.mono ?_; rintro e w1 ⟨rfl, B1⟩; have K1 := hid (A0.out.later B1); clear B1))
      clear A0 G0 C
      obtain ⟨g1, y10⟩ := RG.out [] _ K1.out
      have G1 := hid g1
      clear g1
      go_upto_region 6 with (first | (refine wpList_load_mid rfl 24 _ rfl w.heap.size 0 rfl CC _ G1.out Tryz.underlying24 rfl I24.out ?_) | (refine wpList_store_row rfl 24 _ _ rfl w1.heap.size CC.toArray rfl rfl 24 _ (cfg_new w1) J24.out Z24.out O24.out ?_; rw [World.setRow_alloc_new]))
      have K2 := hid (K1.out.addBlk CC 24)
      clear K1 G1 y10
      generalize w1.heap.size = G at *
      generalize w1.alloc (.cells CC.toArray 24) = w2 at *
      have q0 := (blk_at (j := 0) K2.out (.head _) (CJ.out 0 (by omega))).1
      have q1 := (blk_at (j := 1) K2.out (.head _) (CJ.out 1 (by omega))).1
      have q2 := (blk_at (j := 2) K2.out (.head _) (CJ.out 2 (by omega))).1
      have q3 := (blk_at (j := 3) K2.out (.head _) (CJ.out 3 (by omega))).1
      have q4 := (blk_at (j := 4) K2.out (.head _) (CJ.out 4 (by omega))).1
      have q5 := (blk_at (j := 5) K2.out (.head _) (CJ.out 5 (by omega))).1
      have q6 := (blk_at (j := 6) K2.out (.head _) (CJ.out 6 (by omega))).1
      have q7 := (blk_at (j := 7) K2.out (.head _) (CJ.out 7 (by omega))).1
      have q8 := (blk_at (j := 8) K2.out (.head _) (CJ.out 8 (by omega))).1
      have q9 := (blk_at (j := 9) K2.out (.head _) (CJ.out 9 (by omega))).1
      go_upto_region 7 with fail
      have K3 := hid (K2.out.addBlk CC 3)
      rw [EC.out] at K3
      clear q0 q1 q2 q3 q4 q5 q6 q7 q8 q9 K2
      generalize w2.heap.size = M at *
      generalize w2.alloc (.cells #[.int .i64 (cg 0), .int .i64 (cg 1), .int .i64 (cg 2), .int .i64 (cg 3), .int .i64 (cg 4), .int .i64 (cg 5), .int .i64 (cg 6), .int .i64 (cg 7), .int .i64 (cg 8), .int .i64 (cg 9)] 3) = w3 at *
      go_upto_block 0 with fail
      have K4 := hid (FLT.out _ _ K3.out)
      rw [HF0.out] at K4
      clear K3 FLT EC I24 J24 O24 Z24 HF0
      generalize w3.heap.size = H0 at *
      generalize w3.alloc (.cells #[.string ⟨#[102, 108, 101, 101, 116]⟩] 9) = w4 at *
      go_cut [6] (fun s wx => ∃ a k, s = .slice a 11 k ∧ Hid (All (ownC 9 (.slice a 11 k) (txW (HF 10)) :: blkC M CC 3 :: blkC G CC 24 :: [blkC w.heap.size PV 27, inC w]) wx))
      case first =>
        clear JN LN TL LT ST BL B0 TN DN PT EPE RG T0
        go_wp2_with fail
        go_loopw [6, 7] (fun lv iv wr => ∃ (j : Nat) (a : Option Addr) (k : Nat), j ≤ 10 ∧ iv = .int .i64 (j : Int) ∧ lv = .slice a (j + 1) k ∧ Hid (All (ownC 9 (.slice a (j + 1) k) (txW (HF j)) :: blkC M CC 3 :: blkC G CC 24 :: [blkC w.heap.size PV 27, inC w]) wr)) (fun _ iv _ => 10 - (intOf iv).toNat)
        case atStart => exact ⟨0, _, _, by omega, rfl, rfl, K4⟩
        case round =>
          obtain ⟨j, a, k, hj, rfl, rfl, HA⟩ := hrel
          clear K4
          by_cases hlt : j < 10
          · have hlt' : (j : Int) < 10 := by omega
            have y := (blk_at (j := j) HA.out (.tail _ (.head _)) (CJ.out j hlt)).1
            have Q := hid (DG.out j hlt wr)
            have AP : Hid (∀ W, All (ownC 9 (.slice a (j + 1) k) (txW (HF j)) :: blkC M CC 3 :: blkC G CC 24 :: [blkC w.heap.size PV 27, inC w]) W → ∃ ao c w', (Builtin.append_ #[46, 46] 46 #[.slice a (j + 1) k, .slice (some ⟨W.heap.size, 0, none⟩) 1 1]).run Tryz.prog (W.alloc (.cells #[.string ⟨(dg j).toArray⟩] 9)) = .ok (.slice ao (j + 1 + 1) c) w' ∧ All (ownC 9 (.slice ao (j + 1 + 1) c) (txW (HF (j + 1))) :: blkC M CC 3 :: blkC G CC 24 :: [blkC w.heap.size PV 27, inC w]) w') := hid (fun W h => by
              obtain ⟨ao1, c1, w6, hr, A6⟩ := app_txt h (dg j) (by rw [HFl.out j (by omega)]; omega)
              rw [HFl.out j (by omega)] at hr A6
              rw [HFs.out j hlt] at A6
              exact ⟨ao1, c1, w6, hr, A6⟩)
            generalize ByteArray.mk (dg j).toArray = Y at *
            clear DG HFs HFl CJ
            go_wp2_with (first | (go_at_call 30; refine Q.out.mono ?_; rintro e w5 ⟨rfl, b5⟩; have ap := AP.out _ (HA.out.later b5); clear b5; obtain ⟨ao1, c1, w6, hr, A6⟩ := ap; have R6 := hid hr; have K6 := hid A6; clear hr A6) | (at_builtin; refine wpList_append_run rfl _ _ 46 rfl _ _ _ _ rfl rfl R6.out ?_))
            go_roundw
            case rel => exact ⟨j + 1, ao1, c1, by omega, by go_num, rfl, K6⟩
            case measure => simp [intOf]; omega
          · have hlt' : ¬ (j : Int) < 10 := by omega
            have ej : j = 10 := by omega
            have es : Hid (j + 1 = 11) := hid (by omega)
            have K10 : Hid (All (ownC 9 (.slice a 11 k) (txW (HF 10)) :: blkC M CC 3 :: blkC G CC 24 :: [blkC w.heap.size PV 27, inC w]) wr) := hid (by have := HA.out; rw [ej] at this; exact this)
            clear ej
            go_wp2
            go_meet
            exact ⟨a, k, by rw [es.out], K10⟩
      case rest =>
        obtain ⟨a, k, rfl, K5⟩ := hcut
        clear K4 DG HFs HFl CJ
        go_upto_block 2 with (first | (go_at_call 31; refine (JN.out _ _ _ K5.out).mono ?_; rintro e w6 ⟨rfl, b6⟩; have K6 := hid ((K5.out.later b6).tail.tail.tail); clear b6))
        clear JN K5 f0 g0
        generalize hNN : ss.length = n at *
        have HNN := hid hNN
        clear hNN
        have IN : Hid (∀ W, All [blkC w.heap.size PV 27, inC w] W → Below w.heap.size w W) := hid (fun W h => h.into (by simp))
        go_wp2_with fail
        go_loopw [8, 9, 10, 11] (fun tv iv u10 u11 wr => ∃ (i : Nat) (T : ByteArray), i ≤ n ∧ iv = .int .i64 (i : Int) ∧ tv = .string T ∧ Hid (T = ⟨(textK c ss i).toArray⟩) ∧ Hid (BS = badS (ss.drop i)) ∧ Hid (All [blkC w.heap.size PV 27, inC w] wr)) (fun _ iv _ _ _ => n - (intOf iv).toNat)
        case atStart => exact ⟨0, N0, Nat.zero_le _, rfl, rfl, T0, B0, K6⟩
        case round =>
          obtain ⟨i, T, hi, rfl, rfl, hT, hB, HA⟩ := hrel
          clear K6 B0 T0
          obtain ⟨_, y10⟩ := RG.out [] _ HA.out
          by_cases hlt : i < n
          · have hlt' : (i : Int) < (n : Int) := by omega
            obtain ⟨s, hs⟩ : ∃ s, ss[i]? = some s := ⟨_, List.getElem?_eq_getElem (by rw [HNN.out]; exact hlt)⟩
            obtain ⟨g, o, hao, hg, hr⟩ := ST.out i s hs
            subst hao
            have RS := hid (range_later (IN.out _ HA.out) hg hr)
            have bl := hid (BL.out i s hs)
            rw [← hB.out] at bl
            have Q := hid (LN.out s _ wr (List.mem_of_getElem? hs) HA.out)
            have IS : Hid ((Tryz.prog.info? 43).map (·.size) = some s.vals.length) := hid Tryz.i43
            have lt := LT.out s (List.mem_of_getElem? hs)
            have tl := TL.out i (by omega)
            have TK : Hid (stepE s = 0 → textK c ss (i + 1) = textK c ss i ++ lineT s) := hid (fun h => lineT_K hs h)
            clear hr hg ST BL LN LT TL
            by_cases hE : stepE s ≠ 0
            · have hE' : (stepE s != 0) = true := by simpa using hE
              rw [if_pos hE] at bl
              have e1 : Hid (PE = stepE s) := hid (by rw [EPE.out, bl.out, if_pos hE])
              have e2 : Hid (PT' = []) := hid (by rw [PT.out, e1.out, if_pos hE])
              clear hE EPE PT bl TK hs lt tl
              generalize stepE s = SE at *
              generalize ByteArray.mk (lineT s).toArray = XL at *
              generalize s.vals = SV at *
              go_wp2_with (first | (refine wpList_load_mid rfl 43 _ rfl g (o + i * 10) rfl SV _ RS.out Tryz.underlying43 rfl IS.out ?_) | (go_at_call 32; refine Q.out.mono ?_; rintro e w4 ⟨rfl, A4⟩; have K4 := hid A4; clear A4))
              go_ret2
              exact ⟨by rw [e1.out, e2.out]; rfl, IN.out _ K4.out⟩
            · have hE0 : stepE s = 0 := Classical.byContradiction hE
              rw [if_neg hE] at bl
              rw [hE0] at Q
              obtain ⟨N1, f1, g1, e1⟩ := cat_ex (T := ⟨(lineT s).toArray⟩) hT.out rfl (by omega)
              have T1 : Hid (N1 = ⟨(textK c ss (i + 1)).toArray⟩) := hid (by rw [e1, TK.out hE0])
              clear hE hE0 TK hs e1 lt tl EPE PT
              generalize ByteArray.mk (lineT s).toArray = XL at *
              generalize s.vals = SV at *
              go_wp2_with (first | (refine wpList_load_mid rfl 43 _ rfl g (o + i * 10) rfl SV _ RS.out Tryz.underlying43 rfl IS.out ?_) | (go_at_call 32; refine Q.out.mono ?_; rintro e w4 ⟨rfl, A4⟩; have K4 := hid A4; clear A4))
              go_roundw
              case rel => exact ⟨i + 1, N1, by omega, by go_num, rfl, T1, bl, K4⟩
              case measure => simp [intOf]; omega
          · have hlt' : ¬ (i : Int) < (n : Int) := by omega
            have ei : i = n := by omega
            have eT : T = ⟨(textP c ss).toArray⟩ := by rw [hT.out, ei, TN.out]
            have eB : BS = 0 := by rw [hB.out, ei, DN.out]; rfl
            have hz : T.size = (textP c ss).length := by rw [eT]; exact ba_size _
            have EPE := EPE.out
            rw [eB, if_neg (by simp)] at EPE
            clear ST BL LN LT TL TN DN ei hT hB
            by_cases h6 : 65536 < (textP c ss).length
            · have h6' : (65536 : Int) < ((textP c ss).length : Int) := by omega
              rw [if_pos h6] at EPE
              have FE : Hid ((Ending.returned (.tuple #[.string ⟨PT'.toArray⟩, .int .i64 PE])) = .returned (.tuple #[.string ⟨#[]⟩, .int .i64 172])) := hid (by rw [PT.out, EPE]; rfl)
              clear EPE PT eT h6 eB
              generalize (textP c ss).length = nt at *
              go_wp2
              go_ret2
              exact ⟨FE.out.symm, IN.out _ HA.out⟩
            · have h6' : ¬ (65536 : Int) < ((textP c ss).length : Int) := by omega
              rw [if_neg h6] at EPE
              have FE : Hid ((Ending.returned (.tuple #[.string ⟨PT'.toArray⟩, .int .i64 PE])) = .returned (.tuple #[.string T, .int .i64 0])) := hid (by rw [PT.out, EPE, if_neg (by simp), eT])
              clear EPE PT eT h6 eB
              generalize (textP c ss).length = nt at *
              go_wp2
              go_ret2
              exact ⟨FE.out.symm, IN.out _ HA.out⟩
end Go.Proofs.YtblojlaifnmimaaGreatDoor

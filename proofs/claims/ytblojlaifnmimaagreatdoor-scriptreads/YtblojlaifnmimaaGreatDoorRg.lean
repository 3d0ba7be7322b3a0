import Derived.Test.YtblojlaifnmimaaGreatDoorRh
namespace Go.Proofs.YtblojlaifnmimaaGreatDoor
open Go.RowKit
set_option linter.unusedVariables false

theorem load_yields {o : Oper} {a : Act} {W : World} {x : Operand} {B : Nat} {C : Array Value} (ho : o.op = .load 43 x) (hx : a.eval x = .pointer (some ⟨B, 0, none⟩)) (hg : W.heap[B]? = some (.cells C 43 (0, 0))) (hi : (Tryz.prog.info? 43).map (·.size) = some C.size) : (execOp a.eval o).run Tryz.prog W = .ok (.value (.agg C)) W := by
  unfold execOp
  simp only [ho, hx, Instr.loadAt, Instr.sureAddr, Sem.run_bind, Sem.run_pure, Result.andThen_ok, run_loadVar_row W B 43 43 C (0, 0) _ hg Tryz.underlying43 rfl hi]
theorem ten_of {l : List Value} (h : l.length = 10) : ∃ v0 v1 v2 v3 v4 v5 v6 v7 v8 v9 : Value, l = [v0, v1, v2, v3, v4, v5, v6, v7, v8, v9] := by
  match l, h with
  | [y0, y1, y2, y3, y4, y5, y6, y7, y8, y9], _ => exact ⟨y0, y1, y2, y3, y4, y5, y6, y7, y8, y9, rfl⟩
theorem ten_at {W : World} {B : Nat} {v0 v1 v2 v3 v4 v5 v6 v7 v8 v9 : Value} (h : W.rangeAt B 0 [v0, v1, v2, v3, v4, v5, v6, v7, v8, v9]) : W.cell? ⟨B, 0, none⟩ = some v0 ∧ W.cell? ⟨B, 1, none⟩ = some v1 ∧ W.cell? ⟨B, 2, none⟩ = some v2 ∧ W.cell? ⟨B, 3, none⟩ = some v3 ∧ W.cell? ⟨B, 4, none⟩ = some v4 ∧ W.cell? ⟨B, 5, none⟩ = some v5 ∧ W.cell? ⟨B, 6, none⟩ = some v6 ∧ W.cell? ⟨B, 7, none⟩ = some v7 ∧ W.cell? ⟨B, 8, none⟩ = some v8 ∧ W.cell? ⟨B, 9, none⟩ = some v9 :=
  ⟨h 0 _ rfl, h 1 _ rfl, h 2 _ rfl, h 3 _ rfl, h 4 _ rfl, h 5 _ rfl, h 6 _ rfl, h 7 _ rfl, h 8 _ rfl, h 9 _ rfl⟩
theorem step_new (W : World) : (W.alloc (.cells #[.int .i64 0, .int .i64 0, .int .i64 0, .int .i64 0, .int .i64 0, .int .i64 0, .string ⟨#[]⟩, .string ⟨#[]⟩, .int .i64 0, .int .i64 0] 43)).heap[W.heap.size]? = some (.cells #[.int .i64 0, .int .i64 0, .int .i64 0, .int .i64 0, .int .i64 0, .int .i64 0, .string ⟨#[]⟩, .string ⟨#[]⟩, .int .i64 0, .int .i64 0] 43 (0, 0)) := heap_alloc_new W _
set_option maxHeartbeats 6400000 in
set_option maxRecDepth 1000000 in
theorem line_ref {s : Sp} {cs : List Comp} {w : World} (A : All cs w) (hI : spI s) :
    Calls Tryz.prog 32 #[spV s] w fun e w' => e = .returned (.tuple #[.string ⟨(lineT s).toArray⟩, .int .i64 (stepE s)]) ∧ All cs w' := by
  have A0 := hid (A.addBlk s.vals 43)
  have C0 : Hid (∀ W ds, All (ds ++ blkC w.heap.size s.vals 43 :: cs) W → W.cell? ⟨w.heap.size, 0, none⟩ = some (.int .i64 s.k)) := hid (fun W ds h => (blk_at (j := 0) h (List.mem_append_right _ (.head _)) rfl).1)
  have c0 := C0.out _ [] A0.out
  by_cases hk1 : s.k < 1
  · have e1 : stepE s = 171 := stepE_range (by omega)
    have e2 : lineT s = [] := by unfold lineT; rw [if_pos (by rw [e1]; decide)]
    rw [e1, e2]
    have hk1' : decide (s.k < 1) = true := decide_eq_true hk1
    clear hI e1 e2 C0
    unfold spV
    generalize s.vals = SV at *
    generalize s.k = K at *
    go_enter Tryz.func32, Tryz.ntmps32
    go_wp2
    go_quiet (fail)
    go_wp2
    go_ret2
    exact ⟨rfl, (A0.out.drewN _).tail⟩
  · have hk1' : decide (s.k < 1) = false := decide_eq_false hk1
    by_cases hk14 : 14 ≤ s.k
    · have e1 : stepE s = 171 := stepE_range (by omega)
      have e2 : lineT s = [] := by unfold lineT; rw [if_pos (by rw [e1]; decide)]
      rw [e1, e2]
      have RW : Hid (∀ W, Calls Tryz.prog 42 #[] W fun e w' => ∃ g, e = .returned (.slice (some ⟨g, 0, none⟩) 14 14) ∧ Below W.heap.size W w') := hid (fun W => rows_all.mono (by rintro e w' ⟨g, h1, h2, _⟩; exact ⟨g, h1, h2⟩))
      clear hI e1 e2
      unfold spV
      generalize s.vals = SV at *
      generalize s.k = K at *
      go_enter Tryz.func32, Tryz.ntmps32
      go_upto_region 1 with fail
      go_cut [20] (fun b wx => b = .bool true ∧ Hid (All (blkC w.heap.size SV 43 :: cs) wx))
      case first =>
        go_region_held3 (fun W => W.cell? ⟨w.heap.size, 0, none⟩ = some (.int .i64 K)) (first | exact c1 | go_keep) (first | (go_at_call 42; refine (RW.out _).mono ?_; rintro e w1 ⟨g, rfl, b1⟩; have A1 := hid (A0.out.drew.later b1); have c1 := C0.out _ [] A1.out; clear b1))
        all_goals go_wp2_with fail
        all_goals go_meet
        all_goals exact ⟨rfl, A1⟩
      case rest =>
        obtain ⟨rfl, A1⟩ := hcut
        go_wp2
        go_ret2
        exact ⟨rfl, A1.out.tail⟩
    · obtain ⟨k, hk⟩ : ∃ k : Nat, s.k = (k : Int) := ⟨s.k.toNat, by omega⟩
      have h1 : 1 ≤ k := by omega
      have h13 : k ≤ 13 := by omega
      obtain ⟨r1, r2, r3, r4⟩ := row_word h1 h13
      have RW : Hid (∀ W, Calls Tryz.prog 42 #[] W fun e w' => ∃ g, e = .returned (.slice (some ⟨g, 0, none⟩) 14 14) ∧ Below W.heap.size W w' ∧ w'.cell? ⟨g, k, none⟩ = some (.string ⟨(rowN.getD k []).toArray⟩)) := hid (fun W => rows_all.mono (by rintro e w' ⟨g, h1, h2, h3⟩; exact ⟨g, h1, h2, h3 k (by omega)⟩))
      have QF : Hid (∀ W, Calls Tryz.prog 44 #[.string ⟨(rowN.getD k []).toArray⟩] W fun e w' => e = .returned (.string ⟨(frL (slN k)).toArray⟩) ∧ w' = W) := hid (fun W => by have := fields_any (w := W) r4 r3; rwa [r2] at this)
      have QW : Hid (∀ W, Calls Tryz.prog 43 #[.string ⟨(rowN.getD k []).toArray⟩] W fun e w' => e = .returned (.string ⟨(snN k).toArray⟩) ∧ w' = W) := hid (fun W => by have := word_any (w := W) r4; rwa [r1] at this)
      have hn3 := frL_len h1 h13
      have ST : Hid (∀ i, i < (frL (slN k)).length → _) := hid (fun i hi => line_step hI h1 h13 hk hi)
      have FN := hid (line_fin (s := s) h1 h13 hk)
      have IX : Hid (∀ i, i < (frL (slN k)).length → ∀ W, (Instr.index 9 (.string ⟨(frL (slN k)).toArray⟩) (.int .i64 (i : Int))).run Tryz.prog W = .ok (.int .u8 (((frL (slN k)).getD i 0).toNat : Int)) W) := hid (fun i hi W => idx_at hi W)
      have zf : (⟨(frL (slN k)).toArray⟩ : ByteArray).size = (frL (slN k)).length := ba_size _
      have OW : Hid (∀ W ds, All ds W → All (ownC 9 (.slice (some ⟨W.heap.size, 0, none⟩) 1 1) (txW [snN k]) :: ds) (W.alloc (.cells #[.string ⟨(snN k).toArray⟩] 9))) := hid (fun W ds h => own_big h [snN k] (by simp))
      have DG0 : Hid ([snN k] = DGf k (frL (slN k)) s 0) := hid rfl
      have DGl : Hid (∀ i, i ≤ 3 → (DGf k (frL (slN k)) s i).length ≤ 4) := hid (fun i hi => by
        unfold DGf digF
        rw [List.length_cons, List.length_map]
        have := List.length_filter_le (fun c => decide (c ≠ 111)) ((frL (slN k)).take i)
        rw [List.length_take] at this
        omega)
      have LV0 : Hid (s.vals.set 0 (.int .i64 0) = LVf (frL (slN k)) s 0) := hid rfl
      have IS : Hid ((Tryz.prog.info? 43).map (·.size) = some s.vals.toArray.size) := hid Tryz.i43
      have OS := hid (sp_one s)
      have ZS : Hid ((#[.int .i64 0, .int .i64 0, .int .i64 0, .int .i64 0, .int .i64 0, .int .i64 0, .string ⟨#[]⟩, .string ⟨#[]⟩, .int .i64 0, .int .i64 0] : Array Value).size = s.vals.toArray.size) := hid rfl
      have SL : Hid (s.vals.length = 10) := hid rfl
      have S1 : Hid (∀ u ∈ s.vals, u.oneCell' = true) := hid s.one
      have SV0 : Hid (s.vals[0]? = some (.int .i64 (k : Int))) := hid (by rw [← hk]; rfl)
      have OV : Hid (∀ j u, s.o.vals[j]? = some u → s.vals[5 + j]? = some u) := hid (fun j u h => by rw [← h, Nat.add_comm]; rfl)
      have O58 : Hid (∀ ds W, All ds W → Calls Tryz.prog 58 #[.agg s.o.vals.toArray] W (WRPost (opWs s.o) (opE s.o) ds)) := hid (fun ds W h => rOp_any h)
      have LJ : Hid (lenJ (stepWs s) ≤ 4000) := hid (by
        have h1 := lenJ_small (stepWs_mem hI)
        have h2 := stepWs_len s
        omega)
      rw [hk] at c0 C0 hk1 hk1' hk14
      clear r1 r2 r3 r4 hI
      unfold spV
      generalize hSV : s.vals = SV at *
      go_enter Tryz.func32, Tryz.ntmps32
      go_upto_region 1 with fail
      go_cut [20] (fun b wx => b = .bool false ∧ Hid (All (blkC w.heap.size SV 43 :: cs) wx))
      case first =>
        clear ST FN IX QF QW OW DG0 DGl LV0 IS OS ZS SL S1 SV0 OV O58
        go_region_held3 (fun W => W.cell? ⟨w.heap.size, 0, none⟩ = some (.int .i64 (k : Int))) (first | exact c1 | go_keep) (first | (go_at_call 42; refine (RW.out _).mono ?_; rintro e w1 ⟨g, rfl, b1, _⟩; have A1 := hid (A0.out.drew.later b1); have c1 := C0.out _ [] A1.out; clear b1))
        all_goals go_wp2_with fail
        all_goals go_meet
        all_goals exact ⟨congrArg Value.bool (decide_eq_false (by omega)), A1⟩
      case rest =>
        obtain ⟨rfl, A1⟩ := hcut
        clear A0 c0 hk1' hk14 hk1
        have c1 := C0.out _ [] A1.out
        have k0 : (0 : Int) ≤ (k : Int) := by omega
        have k14 : (k : Int) < 14 := by omega
        go_upto_region 3 with fail
        go_cut [4] (fun b wx => b = .string ⟨(frL (slN k)).toArray⟩ ∧ Hid (All (blkC w.heap.size SV 43 :: cs) wx))
        case first =>
          clear ST FN IX QW OW DG0 DGl LV0 IS OS ZS SL S1 SV0 OV O58
          go_region_with (first | (go_at_call 42; refine (RW.out _).mono ?_; rintro e w1 ⟨g, rfl, b1, y1⟩; have A2 := hid (A1.out.drew.later b1); have c2 := C0.out _ [] A2.out; clear b1) | (go_at_call 44; refine (QF.out _).mono ?_; rintro e w2 ⟨rfl, rfl⟩))
          all_goals go_wp2_with fail
          all_goals go_meet
          all_goals exact ⟨rfl, A2⟩
        case rest =>
          obtain ⟨rfl, A2⟩ := hcut
          clear A1 c1 QF
          have c1 := C0.out _ [] A2.out
          go_upto_region 4 with fail
          go_cut [5] (fun b wx => ∃ ao c, b = .slice ao 1 c ∧ Hid (All (ownC 9 (.slice ao 1 c) (txW [snN k]) :: blkC w.heap.size SV 43 :: cs) wx))
          case first =>
            clear ST FN IX DG0 DGl LV0 IS OS ZS SL S1 SV0 OV O58
            go_region_with (first | (go_at_call 42; refine (RW.out _).mono ?_; rintro e w1 ⟨g, rfl, b1, y1⟩; have A3 := hid (A2.out.drew.later b1); have c2 := C0.out _ [] A3.out; clear b1) | (go_at_call 43; refine (QW.out _).mono ?_; rintro e w2 ⟨rfl, rfl⟩))
            all_goals go_wp2_with fail
            all_goals go_meet
            all_goals exact ⟨_, _, rfl, hid (OW.out _ _ A3.out)⟩
          case rest =>
            obtain ⟨ao, c, rfl, A3⟩ := hcut
            clear A2 c1 RW QW OW C0
            have HB := hid A3.out.tail.1.2.1
            go_upto_region 6 with (first | (refine wpList_load_row rfl 43 _ rfl w.heap.size rfl 43 SV.toArray (0, 0) _ HB.out Tryz.underlying43 rfl IS.out ?_) | (refine wpList_store_row rfl 43 _ _ rfl wc.heap.size SV.toArray rfl rfl 43 _ (step_new wc) IS.out ZS.out OS.out ?_; rw [World.setRow_alloc_new]))
            have K4 := hid (A3.out.addBlk SV 43)
            clear A3 HB
            generalize wc.heap.size = L at *
            generalize wc.alloc (.cells SV.toArray 43) = w4 at *
            generalize w.heap.size = B at *
            obtain ⟨y0, z0, hL⟩ := blk_at (j := 0) K4.out (.head _) SV0.out
            have K5 := hid (K4.out.setBlk 0 (.int .i64 0))
            rw [LV0.out] at K5
            clear K4 LV0 SV0 IS OS ZS
            generalize hFR : frL (slN k) = FR at *
            generalize hn : FR.length = n at *
            generalize hXF : ByteArray.mk FR.toArray = XF at *
            clear hXF
            have hi43 : (Tryz.prog.info? 43).map (·.size) = some SV.length := by rw [Tryz.i43, SL.out]
            have hu43 := Tryz.underlying43
            have RG : Hid (∀ W i a m c x, All (blkC L (LVf FR s i) 43 :: ownC 9 (.slice a m c) x :: blkC B SV 43 :: cs) W → W.rangeAt B 0 SV) := hid (fun W i a m c x h => blk_range h (.tail _ (.tail _ (.head _))))
            have IL : Hid (∀ i, (Tryz.prog.info? 43).map (·.size) = some (LVf FR s i).toArray.size) := hid (fun i => Tryz.i43)
            have OL : Hid (∀ i, (LVf FR s i).toArray.all (·.oneCell') = true) := hid (fun i => all_oneCell_toArray (LVf_one FR s i))
            have IS43 : Hid ((Tryz.prog.info? 43).map (·.size) = some SV.toArray.size) := hid (by rw [Tryz.i43, List.size_toArray, SL.out])
            have RL : Hid (∀ W i a m c x, All (blkC L (LVf FR s i) 43 :: ownC 9 (.slice a m c) x :: blkC B SV 43 :: cs) W → W.rangeAt L 0 (LVf FR s i) ∧ W.there L 0 10) := hid (fun W i a m c x h => ⟨blk_range h (.head _), blk_there h (.head _) (by rw [LVf_len]; omega)⟩)
            go_upto_block 0 with fail
            go_wp2_with fail
            go_loopw [5, 7, 8] (fun lv ov iv wr => ∃ (i : Nat) (a : Option Addr) (c : Nat), i ≤ n ∧ iv = .int .i64 (i : Int) ∧ ov = .bool (opsF (FR.take i)) ∧ lv = .slice a (DGf k FR s i).length c ∧ Hid (posF (FR.take i) s = true) ∧ Hid (All (blkC L (LVf FR s i) 43 :: ownC 9 (.slice a (DGf k FR s i).length c) (txW (DGf k FR s i)) :: blkC B SV 43 :: cs) wr)) (fun _ _ iv _ => n - (intOf iv).toNat)
            case atStart => exact ⟨0, ao, c, by omega, rfl, rfl, rfl, hid rfl, K5⟩
            case round =>
              obtain ⟨i, a, c', hi, rfl, rfl, rfl, hP, HA⟩ := hrel
              clear K5 y0 z0 hL
              by_cases hlt : i < n
              · have hlt' : (i : Int) < (n : Int) := by omega
                have ix := IX.out i hlt
                have st := ST.out i hlt
                have dl := DGl.out i (by omega)
                generalize hb : FR.getD i 0 = b at ix st
                clear hb
                rcases st with ⟨h111, hM, hD, hO, hp⟩ | ⟨hne, v, of57, st⟩
                · subst h111
                  have ix : ∀ W, (Instr.index 9 (.string XF) (.int .i64 (i : Int))).run Tryz.prog W = .ok (.int .u8 111) W := ix
                  have TH : Hid (wr.there L 5 zoV.toArray.size) := hid (blk_there HA.out (.head _) (by rw [LVf_len]; decide))
                  have I41 : Hid ((Tryz.prog.info? 41).map (·.size) = some zoV.toArray.size) := hid Tryz.i41
                  have O41 : Hid (zoV.toArray.all (·.oneCell') = true) := hid (by simp [zoV, Value.oneCell'])
                  have K6 := hid (All.setMid zoV _ 5 _ HA.out)
                  rw [hM] at K6
                  have R1 : Hid (posF (FR.take (i + 1)) s = true) := hid (hp hP.out)
                  have HO := hid hO
                  have HD := hid hD
                  clear hM hp hO hD HA hP ST FN IX
                  generalize hdg : (DGf k FR s i).length = dg at *
                  have EW : wr.setCells L 5 zoV.toArray.toList = wr.setCells L 5 zoV := rfl
                  go_upto_region 13 with (first | (refine wpList_build rfl 41 _ rfl (by kernel_rfl) ?_) | (refine wpList_store_mid rfl 41 _ _ rfl L 5 zoV.toArray rfl (by kernel_rfl) TH.out I41.out O41.out ?_))
                  rw [EW]
                  clear EW TH I41 O41
                  generalize wr.setCells L 5 zoV = w6 at *
                  go_wp2
                  go_roundw
                  case rel => exact ⟨i + 1, a, c', by omega, by go_num, by rw [HO.out], by rw [HD.out, hdg], R1, hid (by rw [HD.out, hdg]; exact K6.out)⟩
                  case measure => simp [intOf]; omega
                · have hb' : ((b.toNat : Int) == 111) = false := by
                    have : b.toNat ≠ 111 := fun e => hne (UInt8.toNat_inj.1 e)
                    simp; omega
                  have OF := hid of57
                  clear of57
                  have r0 := RG.out _ _ _ _ _ _ HA.out
                  go_upto_region 14 with fail
                  go_cut [53] (fun bb wx => bb = .bool (decide (v < 0)) ∧ Hid (All (blkC L (LVf FR s i) 43 :: ownC 9 (.slice a (DGf k FR s i).length c') (txW (DGf k FR s i)) :: blkC B SV 43 :: cs) wx))
                  case first =>
                    clear ST FN IX st O58 OV DGl
                    have hb0 : Hid ((fun W : World => W.heap[B]? = some (.cells SV.toArray 43 (0, 0))) wr.drew) := hid HA.out.drew.tail.tail.1.2.1
                    refine wp_region_held_drew (S := fun W => W.heap[B]? = some (.cells SV.toArray 43 (0, 0))) (by kernel_rfl) hb0.out (fun hHeld => ?_)
                    refine wpAnyH_take (i := 0) (oi := { dst := some 48, op := Go.Op.load 43 (Go.Operand.tmp 1), type := 43, pos := "ref.go:193", after := #[], guard := none }) (v := .agg SV.toArray) rfl (by kernel_rfl) (by kernel_rfl) (by kernel_rfl) (fun _ _ _ h => h) (Or.inl ⟨by rfl, fun W hSw => load_yields (x := .tmp 1) rfl rfl hSw IS43.out⟩) hHeld ?_
                    (try simp only [Act.put, List.setIfInBounds_toArray, List.set_cons_zero, List.set_cons_succ])
                    refine wpAnyH_take (i := 1) (oi := { dst := some 49, op := Go.Op.move (Go.Operand.tmp 4), type := 9, pos := "ref.go:193", after := #[], guard := none }) (v := ?_) rfl (by kernel_rfl) (by kernel_rfl) (by kernel_rfl) (fun _ _ _ h => h) (Or.inl ⟨by rfl, ?_⟩) hHeld ?_
                    rotate_left
                    · intro W hSw
                      (try dsimp only at hSw)
                      go_simp
                      (try with_reducible rfl)
                    (try simp only [Act.put, List.setIfInBounds_toArray, List.set_cons_zero, List.set_cons_succ])
                    refine wpAnyH_take (i := 2) (oi := { dst := some 50, op := Go.Op.move (Go.Operand.tmp 8), type := 3, pos := "ref.go:193", after := #[], guard := none }) (v := ?_) rfl (by kernel_rfl) (by kernel_rfl) (by kernel_rfl) (fun _ _ _ h => h) (Or.inl ⟨by rfl, ?_⟩) hHeld ?_
                    rotate_left
                    · intro W hSw
                      (try dsimp only at hSw)
                      go_simp
                      (try with_reducible rfl)
                    (try simp only [Act.put, List.setIfInBounds_toArray, List.set_cons_zero, List.set_cons_succ])
                    refine wpAnyH_take (i := 3) (oi := { dst := some 51, op := Go.Op.index 9 (Go.Operand.tmp 49) (Go.Operand.tmp 50), type := 5, pos := "ref.go:193", after := #[{ on := 1, ground := Go.Ground.data }, { on := 2, ground := Go.Ground.data }], guard := none }) (v := ?_) rfl (by kernel_rfl) (by kernel_rfl) (by kernel_rfl) (fun _ _ _ h => h) (Or.inl ⟨by rfl, ?_⟩) hHeld ?_
                    rotate_left
                    · intro W hSw
                      (try dsimp only at hSw)
                      go_simp
                      (try with_reducible rfl)
                    (try simp only [Act.put, List.setIfInBounds_toArray, List.set_cons_zero, List.set_cons_succ])
                    refine wpAnyH_ready (rs := [4]) (by kernel_rfl) (by simp) ?_
                    refine AllReadyH.cons (o := { dst := some 52, op := Go.Op.call { callee := Go.Callee.value (Go.Operand.func 57), args := #[Go.Operand.tmp 48, Go.Operand.tmp 51], argTypes := #[43, 5] }, type := 3, pos := "ref.go:193", after := #[{ on := 0, ground := Go.Ground.data }, { on := 3, ground := Go.Ground.data }], guard := none }) rfl (fun K hK => ?_) AllReadyH.nil
                    go_simp
                    go_at_call 57; refine (OF.out _).mono ?_; rintro e w5 ⟨rfl, b5⟩; have K7 := hid (HA.out.drew.later b5); clear b5
                    refine hK.out _ _ K7.out.tail.tail.1.2.1 (fun hHeld => ?_)
                    clear hK K
                    (try simp only [Act.put, List.setIfInBounds_toArray, List.set_cons_zero, List.set_cons_succ])
                    refine wpAnyH_take (i := 5) (oi := { dst := some 53, op := Go.Op.binOp Go.BinOp.lss 3 (Go.Operand.tmp 52) (Go.Operand.const (Go.Value.int Go.IntKind.i64 0)) 3, type := 4, pos := "ref.go:193", after := #[{ on := 4, ground := Go.Ground.data }], guard := none }) (v := ?_) rfl (by kernel_rfl) (by kernel_rfl) (by kernel_rfl) (fun _ _ _ h => h) (Or.inl ⟨by rfl, ?_⟩) hHeld ?_
                    rotate_left
                    · intro W hSw
                      (try dsimp only at hSw)
                      go_simp
                      (try with_reducible rfl)
                    (try simp only [Act.put, List.setIfInBounds_toArray, List.set_cons_zero, List.set_cons_succ])
                    refine wpAnyH_done (by kernel_rfl) ?_ _
                    clear hHeld
                    all_goals go_wp2_with fail
                    all_goals go_meet
                    all_goals exact ⟨rfl, K7⟩
                  case rest =>
                    obtain ⟨rfl, K7⟩ := hcut
                    clear HA r0
                    rcases st with ⟨hv, hE⟩ | ⟨hv, w45, x, d30, hD, hO, hp⟩
                    · have e2 : lineT s = [] := by unfold lineT; rw [if_pos (by rw [hE]; decide)]
                      have hv' : decide (v < 0) = true := decide_eq_true hv
                      have FE : Hid ((Ending.returned (.tuple #[.string ⟨(lineT s).toArray⟩, .int .i64 (stepE s)])) = .returned (.tuple #[.string ⟨#[]⟩, .int .i64 171])) := hid (by rw [hE, e2])
                      clear ST FN IX O58 OV DGl
                      go_wp2
                      go_ret2
                      exact ⟨FE.out.symm, K7.out.tail.tail.tail⟩
                    · have hv' : decide (v < 0) = false := decide_eq_false (by omega)
                      have W45 := hid w45
                      have D30 := hid d30
                      have HO := hid hO
                      have HD := hid hD
                      have R1 : Hid (posF (FR.take (i + 1)) s = true) := hid (hp hP.out)
                      clear w45 d30 hO hD hp hP ST FN O58 OV DGl DG0 LJ
                      go_upto_region 16 with fail
                      go_cut [] (fun wx => Hid (All (blkC L (LVf FR s (i + 1)) 43 :: ownC 9 (.slice a (DGf k FR s i).length c') (txW (DGf k FR s i)) :: blkC B SV 43 :: cs) wx))
                      case first =>
                        have HH := hid K7.out.drew.1.2.1
                        refine wp_region_held_drew (S := fun _ => True) (by kernel_rfl) trivial (fun hHeld => ?_)
                        refine wpAnyH_take (i := 1) (oi := { dst := some 55, op := Go.Op.move (Go.Operand.tmp 4), type := 9, pos := "ref.go:196", after := #[], guard := none }) (v := ?_) rfl (by kernel_rfl) (by kernel_rfl) (by kernel_rfl) (fun _ _ _ h => h) (Or.inl ⟨by rfl, ?_⟩) hHeld ?_
                        rotate_left
                        · intro W hSw
                          (try dsimp only at hSw)
                          go_simp
                          (try with_reducible rfl)
                        (try simp only [Act.put, List.setIfInBounds_toArray, List.set_cons_zero, List.set_cons_succ])
                        refine wpAnyH_take (i := 2) (oi := { dst := some 56, op := Go.Op.move (Go.Operand.tmp 8), type := 3, pos := "ref.go:196", after := #[], guard := none }) (v := ?_) rfl (by kernel_rfl) (by kernel_rfl) (by kernel_rfl) (fun _ _ _ h => h) (Or.inl ⟨by rfl, ?_⟩) hHeld ?_
                        rotate_left
                        · intro W hSw
                          (try dsimp only at hSw)
                          go_simp
                          (try with_reducible rfl)
                        (try simp only [Act.put, List.setIfInBounds_toArray, List.set_cons_zero, List.set_cons_succ])
                        refine wpAnyH_take (i := 3) (oi := { dst := some 57, op := Go.Op.index 9 (Go.Operand.tmp 55) (Go.Operand.tmp 56), type := 5, pos := "ref.go:196", after := #[{ on := 1, ground := Go.Ground.data }, { on := 2, ground := Go.Ground.data }], guard := none }) (v := ?_) rfl (by kernel_rfl) (by kernel_rfl) (by kernel_rfl) (fun _ _ _ h => h) (Or.inl ⟨by rfl, ?_⟩) hHeld ?_
                        rotate_left
                        · intro W hSw
                          (try dsimp only at hSw)
                          go_simp
                          (try with_reducible rfl)
                        (try simp only [Act.put, List.setIfInBounds_toArray, List.set_cons_zero, List.set_cons_succ])
                        refine wpAnyH_ready (rs := [0]) (by kernel_rfl) (by simp) ?_
                        refine AllReadyH.cons (o := { dst := some 54, op := Go.Op.load 43 (Go.Operand.tmp 6), type := 43, pos := "ref.go:196", after := #[], guard := none }) rfl (fun K hK => ?_) AllReadyH.nil
                        rw [if_pos (by rfl)]
                        refine wp_load_row 43 _ rfl L rfl 43 (LVf FR s i).toArray (0, 0) _ HH.out Tryz.underlying43 rfl (IL.out i) ?_
                        refine hK.out _ _ trivial (fun hHeld => ?_)
                        clear hK K
                        (try simp only [Act.put, List.setIfInBounds_toArray, List.set_cons_zero, List.set_cons_succ])
                        refine wpAnyH_ready (rs := [4]) (by kernel_rfl) (by simp) ?_
                        refine AllReadyH.cons (o := { dst := some 58, op := Go.Op.call { callee := Go.Callee.value (Go.Operand.func 45), args := #[Go.Operand.tmp 54, Go.Operand.tmp 57, Go.Operand.const (Go.Value.int Go.IntKind.i64 0)], argTypes := #[43, 5, 3] }, type := 43, pos := "ref.go:196", after := #[{ on := 0, ground := Go.Ground.data }, { on := 3, ground := Go.Ground.data }], guard := none }) rfl (fun K hK => ?_) AllReadyH.nil
                        go_simp
                        go_at_call 45; refine (W45.out _).mono ?_; rintro e w8 ⟨rfl, b8⟩; have K8 := hid (K7.out.drew.later b8); clear b8; have H8 := hid K8.out.1.2.1; have K9 := hid (K8.out.setRow (vs' := LVf FR s (i + 1)))
                        refine hK.out _ _ trivial (fun hHeld => ?_)
                        clear hK K
                        (try simp only [Act.put, List.setIfInBounds_toArray, List.set_cons_zero, List.set_cons_succ])
                        refine wpAnyH_ready (rs := [5]) (by kernel_rfl) (by simp) ?_
                        refine AllReadyH.cons (o := { dst := none, op := Go.Op.store 43 (Go.Operand.tmp 6) (Go.Operand.tmp 58), type := 0, pos := "ref.go:196", after := #[{ on := 4, ground := Go.Ground.data }, { on := 4, ground := Go.Ground.chain }, { on := 0, ground := Go.Ground.phase }, { on := 1, ground := Go.Ground.phase }, { on := 2, ground := Go.Ground.phase }, { on := 3, ground := Go.Ground.phase }, { on := 4, ground := Go.Ground.phase }], guard := none }) rfl (fun K hK => ?_) AllReadyH.nil
                        rw [if_pos (by rfl)]
                        refine wp_store_row 43 _ _ rfl L (LVf FR s (i + 1)).toArray rfl rfl 43 _ H8.out (IL.out (i + 1)) rfl (OL.out (i + 1)) ?_
                        refine hK.out _ _ trivial (fun hHeld => ?_)
                        clear hK K
                        (try simp only [Act.put])
                        refine wpAnyH_done (by kernel_rfl) ?_ _
                        clear hHeld
                        all_goals go_wp2_with fail
                        all_goals go_meet
                        all_goals exact K9
                      case rest =>
                        have K9 := hcut
                        clear hcut K7 W45
                        go_upto_region 17 with fail
                        have EL := hid (show (DGf k FR s (i + 1)).length = (DGf k FR s i).length + 1 by rw [HD.out, List.length_append]; rfl)
                        have HH := hid K9.out.drew.tail.tail.1.2.1
                        refine wp_region_held_drew (S := fun _ => True) (by kernel_rfl) trivial (fun hHeld => ?_)
                        refine wpAnyH_take (i := 0) (oi := { dst := some 59, op := Go.Op.move (Go.Operand.tmp 5), type := 46, pos := "ref.go:197", after := #[], guard := none }) (v := ?_) rfl (by kernel_rfl) (by kernel_rfl) (by kernel_rfl) (fun _ _ _ h => h) (Or.inl ⟨by rfl, ?_⟩) hHeld ?_
                        rotate_left
                        · intro W hSw
                          (try dsimp only at hSw)
                          go_simp
                          (try with_reducible rfl)
                        (try simp only [Act.put, List.setIfInBounds_toArray, List.set_cons_zero, List.set_cons_succ])
                        refine wpAnyH_take (i := 2) (oi := { dst := some 61, op := Go.Op.move (Go.Operand.tmp 4), type := 9, pos := "ref.go:197", after := #[], guard := none }) (v := ?_) rfl (by kernel_rfl) (by kernel_rfl) (by kernel_rfl) (fun _ _ _ h => h) (Or.inl ⟨by rfl, ?_⟩) hHeld ?_
                        rotate_left
                        · intro W hSw
                          (try dsimp only at hSw)
                          go_simp
                          (try with_reducible rfl)
                        (try simp only [Act.put, List.setIfInBounds_toArray, List.set_cons_zero, List.set_cons_succ])
                        refine wpAnyH_take (i := 3) (oi := { dst := some 62, op := Go.Op.move (Go.Operand.tmp 8), type := 3, pos := "ref.go:197", after := #[], guard := none }) (v := ?_) rfl (by kernel_rfl) (by kernel_rfl) (by kernel_rfl) (fun _ _ _ h => h) (Or.inl ⟨by rfl, ?_⟩) hHeld ?_
                        rotate_left
                        · intro W hSw
                          (try dsimp only at hSw)
                          go_simp
                          (try with_reducible rfl)
                        (try simp only [Act.put, List.setIfInBounds_toArray, List.set_cons_zero, List.set_cons_succ])
                        refine wpAnyH_take (i := 4) (oi := { dst := some 63, op := Go.Op.index 9 (Go.Operand.tmp 61) (Go.Operand.tmp 62), type := 5, pos := "ref.go:197", after := #[{ on := 2, ground := Go.Ground.data }, { on := 3, ground := Go.Ground.data }], guard := none }) (v := ?_) rfl (by kernel_rfl) (by kernel_rfl) (by kernel_rfl) (fun _ _ _ h => h) (Or.inl ⟨by rfl, ?_⟩) hHeld ?_
                        rotate_left
                        · intro W hSw
                          (try dsimp only at hSw)
                          go_simp
                          (try with_reducible rfl)
                        (try simp only [Act.put, List.setIfInBounds_toArray, List.set_cons_zero, List.set_cons_succ])
                        refine wpAnyH_ready (rs := [1]) (by kernel_rfl) (by simp) ?_
                        refine AllReadyH.cons (o := { dst := some 60, op := Go.Op.load 43 (Go.Operand.tmp 1), type := 43, pos := "ref.go:197", after := #[], guard := none }) rfl (fun K hK => ?_) AllReadyH.nil
                        rw [if_pos (by rfl)]
                        refine wp_load_row 43 _ rfl B rfl 43 SV.toArray (0, 0) _ HH.out Tryz.underlying43 rfl IS43.out ?_
                        refine hK.out _ _ trivial (fun hHeld => ?_)
                        clear hK K
                        (try simp only [Act.put, List.setIfInBounds_toArray, List.set_cons_zero, List.set_cons_succ])
                        refine wpAnyH_ready (rs := [5]) (by kernel_rfl) (by simp) ?_
                        refine AllReadyH.cons (o := { dst := some 64, op := Go.Op.call { callee := Go.Callee.value (Go.Operand.func 57), args := #[Go.Operand.tmp 60, Go.Operand.tmp 63], argTypes := #[43, 5] }, type := 3, pos := "ref.go:197", after := #[{ on := 1, ground := Go.Ground.data }, { on := 4, ground := Go.Ground.data }], guard := none }) rfl (fun K hK => ?_) AllReadyH.nil
                        go_simp
                        go_at_call 57; refine (OF.out _).mono ?_; rintro e wa ⟨rfl, ba'⟩; have Ka := hid (K9.out.drew.later ba'); clear ba'
                        refine hK.out _ _ trivial (fun hHeld => ?_)
                        clear hK K
                        (try simp only [Act.put, List.setIfInBounds_toArray, List.set_cons_zero, List.set_cons_succ])
                        refine wpAnyH_ready (rs := [6]) (by kernel_rfl) (by simp) ?_
                        refine AllReadyH.cons (o := { dst := some 65, op := Go.Op.call { callee := Go.Callee.value (Go.Operand.func 30), args := #[Go.Operand.tmp 64], argTypes := #[3] }, type := 9, pos := "ref.go:197", after := #[{ on := 5, ground := Go.Ground.data }, { on := 5, ground := Go.Ground.chain }], guard := none }) rfl (fun K hK => ?_) AllReadyH.nil
                        go_simp
                        go_at_call 30; refine (D30.out _).mono ?_; rintro e wb ⟨rfl, bb'⟩; have Kb := hid (Ka.out.later bb'); clear bb'; obtain ⟨ao1, c1, wd, hr, Ad⟩ := app_txt Kb.out.swap x (by omega); have R := hid hr; have Kd := hid Ad; clear hr Ad
                        refine hK.out _ _ trivial (fun hHeld => ?_)
                        clear hK K
                        (try simp only [Act.put, List.setIfInBounds_toArray, List.set_cons_zero, List.set_cons_succ])
                        refine wpAnyH_ready (rs := [7]) (by kernel_rfl) (by simp) ?_
                        refine AllReadyH.cons (o := { dst := some 66, op := Go.Op.buildSlice 46 1 #[(0, Go.Operand.tmp 65)], type := 46, pos := "ref.go:197", after := #[{ on := 6, ground := Go.Ground.data }], guard := none }) rfl (fun K hK => ?_) AllReadyH.nil
                        go_simp
                        refine hK.out _ _ trivial (fun hHeld => ?_)
                        clear hK K
                        (try simp only [Act.put, List.setIfInBounds_toArray, List.set_cons_zero, List.set_cons_succ])
                        refine wpAnyH_ready (rs := [8]) (by kernel_rfl) (by simp) ?_
                        refine AllReadyH.cons (o := { dst := some 67, op := Go.Op.call { callee := Go.Callee.builtin Go.Builtin.append, args := #[Go.Operand.tmp 59, Go.Operand.tmp 66], argTypes := #[46, 46] }, type := 46, pos := "ref.go:197", after := #[{ on := 0, ground := Go.Ground.data }, { on := 7, ground := Go.Ground.data }, { on := 6, ground := Go.Ground.chain }], guard := none }) rfl (fun K hK => ?_) AllReadyH.nil
                        refine step_append_run (by rfl) (.tmp 59) (.tmp 66) 46 (by rfl) _ _ _ _ (by rfl) (by rfl) R.out ?_
                        refine hK.out _ _ trivial (fun hHeld => ?_)
                        clear hK K
                        (try simp only [Act.put, List.setIfInBounds_toArray, List.set_cons_zero, List.set_cons_succ])
                        refine wpAnyH_take (i := 9) (oi := { dst := some 5, op := Go.Op.assign (Go.Operand.tmp 67), type := 46, pos := "ref.go:197", after := #[{ on := 8, ground := Go.Ground.data }, { on := 8, ground := Go.Ground.chain }, { on := 0, ground := Go.Ground.phase }, { on := 1, ground := Go.Ground.phase }, { on := 2, ground := Go.Ground.phase }, { on := 3, ground := Go.Ground.phase }, { on := 4, ground := Go.Ground.phase }, { on := 5, ground := Go.Ground.phase }, { on := 6, ground := Go.Ground.phase }, { on := 7, ground := Go.Ground.phase }, { on := 8, ground := Go.Ground.phase }], guard := none }) (v := ?_) rfl (by kernel_rfl) (by kernel_rfl) (by kernel_rfl) (fun _ _ _ h => h) (Or.inl ⟨by rfl, ?_⟩) hHeld ?_
                        rotate_left
                        · intro W hSw
                          (try dsimp only at hSw)
                          go_simp
                          (try with_reducible rfl)
                        (try simp only [Act.put, List.setIfInBounds_toArray, List.set_cons_zero, List.set_cons_succ])
                        refine wpAnyH_done (by kernel_rfl) ?_ _
                        clear hHeld
                        clear D30 OF K9 Ka Kb R HH
                        generalize (DGf k FR s i).length = dg at *
                        go_wp2
                        go_roundw
                        case rel => exact ⟨i + 1, ao1, c1, by omega, by go_num, by rw [HO.out], by rw [EL.out], R1, hid (by rw [EL.out, HD.out]; exact Kd.out.swap)⟩
                        case measure => simp [intOf]; omega
              · have hlt' : ¬ (i : Int) < (n : Int) := by omega
                have ek : i = n := by omega
                have fn := FN.out (by rw [← ek]; exact hP.out)
                rw [← ek] at fn
                have dl := DGl.out i (by omega)
                obtain ⟨D, eqD, f1, f2, f3⟩ := fn
                have eqD : ∀ W, (Op.equalIn 10000 43 (.agg (LVf FR s i).toArray) (.agg #[.int .i64 0, .int .i64 0, .int .i64 0, .int .i64 0, .int .i64 0, .int .i64 0, .string ⟨#[]⟩, .string ⟨#[]⟩, .int .i64 0, .int .i64 0])).run Tryz.prog W = .ok D W := eqD
                have HL : Hid (wr.heap[L]? = some (.cells (LVf FR s i).toArray 43 (0, 0))) := hid HA.out.1.2.1
                have IW := hid (IL.out i)
                clear FN ST IX DG0 ek hP
                cases D with
                | false =>
                  have hE := f1 rfl
                  have e2 : lineT s = [] := by unfold lineT; rw [if_pos (by rw [hE]; decide)]
                  have FE : Hid ((Ending.returned (.tuple #[.string ⟨(lineT s).toArray⟩, .int .i64 (stepE s)])) = .returned (.tuple #[.string ⟨#[]⟩, .int .i64 171])) := hid (by rw [hE, e2])
                  clear f1 f2 f3 e2 hE O58 OV DGl LJ
                  generalize (LVf FR s i).toArray = LA at *
                  go_wp2_with (first | (refine wpList_load_row rfl 43 _ rfl L rfl 43 LA (0, 0) _ HL.out Tryz.underlying43 rfl IW.out ?_))
                  go_ret2
                  exact ⟨FE.out.symm, HA.out.tail.tail.tail⟩
                | true =>
                  clear f1
                  cases hO : opsF (FR.take i) with
                  | false =>
                    obtain ⟨hE, hw⟩ := f3 rfl hO
                    have JN : Hid (∀ W, All (blkC L (LVf FR s i) 43 :: ownC 9 (.slice a (DGf k FR s i).length c') (txW (DGf k FR s i)) :: blkC B SV 43 :: cs) W → Calls Tryz.prog 31 #[.slice a (DGf k FR s i).length c'] W fun e w' => e = .returned (.string ⟨(joinW (stepWs s)).toArray⟩) ∧ Below W.heap.size W w') := hid (fun W h => by
                      refine (rJoin_any (rt_mem h (.tail _ (.head _))) (by omega) (by rw [hw]; have := LJ.out; omega)).mono ?_
                      rintro e w' ⟨rfl, hb⟩
                      exact ⟨by rw [hw], hb⟩)
                    obtain ⟨N1, g1, g2, e1⟩ := cat_ex (S := ⟨(joinW (stepWs s)).toArray⟩) (T := ⟨#[10]⟩) (b := [10]) rfl rfl (by
                      have h1 := joinW_len (stepWs s) (stepWs s).length (Nat.le_refl _)
                      rw [List.take_length] at h1
                      have := LJ.out
                      simp only [List.length_cons, List.length_nil]
                      omega)
                    have FE : Hid ((Ending.returned (.tuple #[.string ⟨(lineT s).toArray⟩, .int .i64 (stepE s)])) = .returned (.tuple #[.string N1, .int .i64 0])) := hid (by rw [hE, e1]; unfold lineT; rw [if_neg (by rw [hE]; simp)]; rfl)
                    clear f2 f3 hw hE e1 O58 OV DGl LJ
                    generalize ByteArray.mk (joinW (stepWs s)).toArray = XJ at *
                    generalize hdg : (DGf k FR s i).length = dg at *
                    generalize (LVf FR s i).toArray = LA at *
                    go_wp2_with (first | (refine wpList_load_row rfl 43 _ rfl L rfl 43 LA (0, 0) _ HL.out Tryz.underlying43 rfl IW.out ?_) | (go_at_call 31; refine (JN.out _ HA.out).mono ?_; rintro e w9 ⟨rfl, b9⟩; have K9 := hid (HA.out.later b9); clear b9))
                    go_ret2
                    exact ⟨FE.out.symm, K9.out.tail.tail.tail⟩
                  | true =>
                    obtain ⟨hE, hw⟩ := f2 rfl hO
                    have RGo : Hid (wr.rangeAt B 5 s.o.vals) := hid (blk_mid HA.out (.tail _ (.tail _ (.head _))) OV.out)
                    have I41 : Hid ((Tryz.prog.info? 41).map (·.size) = some s.o.vals.length) := hid Tryz.i41
                    have Q := hid (O58.out _ _ HA.out)
                    unfold WRPost at Q
                    by_cases hz : opE s.o ≠ 0
                    · have hz' : (opE s.o != 0) = true := by simpa using hz
                      have e2 : lineT s = [] := by unfold lineT; rw [if_pos (by rw [hE]; exact hz)]
                      have FE : Hid ((Ending.returned (.tuple #[.string ⟨(lineT s).toArray⟩, .int .i64 (stepE s)])) = .returned (.tuple #[.string ⟨#[]⟩, .int .i64 (opE s.o)])) := hid (by rw [hE, e2])
                      clear f2 f3 hw hE e2 O58 OV DGl LJ hz
                      generalize s.o.vals = OVV at *
                      generalize opWs s.o = OWW at *
                      generalize opE s.o = OE at *
                      generalize (LVf FR s i).toArray = LA at *
                      go_wp2_with (first | (refine wpList_load_row rfl 43 _ rfl L rfl 43 LA (0, 0) _ HL.out Tryz.underlying43 rfl IW.out ?_) | (refine wpList_load_mid rfl 41 _ rfl B 5 rfl OVV _ RGo.out Tryz.underlying41 rfl I41.out ?_) | (go_at_call 58; refine Q.out.mono ?_; rintro e w9 ⟨v4, rfl, A9⟩; have K9 := hid A9; clear A9))
                      go_ret2
                      exact ⟨FE.out.symm, K9.out.tail.tail.tail.tail⟩
                    · have hz0 : opE s.o = 0 := Classical.byContradiction hz
                      rw [hz0] at Q
                      have hw := hw hz0
                      have ol : (opWs s.o).length ≤ 4 := opA_len _ _ _ _ _
                      have AP : Hid (∀ v4 W, All (ownC 9 v4 (txW (opWs s.o)) :: blkC L (LVf FR s i) 43 :: ownC 9 (.slice a (DGf k FR s i).length c') (txW (DGf k FR s i)) :: blkC B SV 43 :: cs) W → ∃ v5 w5, (Builtin.append_ #[46, 46] 46 #[.slice a (DGf k FR s i).length c', v4]).run Tryz.prog W = .ok v5 w5 ∧ All (ownC 9 v5 (txW (stepWs s)) :: cs) w5) := hid (fun v4 W h => by
                        obtain ⟨a5, c5, w5, hr, A5⟩ := appR (h.perm (perm3a _ _ _ _)) (rt_mem h (.head _)) (by omega)
                        rw [hw] at A5
                        exact ⟨_, w5, hr, A5.del.del.del⟩)
                      have JN : Hid (∀ v5 W, All (ownC 9 v5 (txW (stepWs s)) :: cs) W → Calls Tryz.prog 31 #[v5] W fun e w' => e = .returned (.string ⟨(joinW (stepWs s)).toArray⟩) ∧ Below W.heap.size W w') := hid (fun v5 W h => rJoin_any (rt_mem h (.head _)) (by rw [← hw, List.length_append]; omega) (by have := LJ.out; omega))
                      obtain ⟨N1, g1, g2, e1⟩ := cat_ex (S := ⟨(joinW (stepWs s)).toArray⟩) (T := ⟨#[10]⟩) (b := [10]) rfl rfl (by
                        have h1 := joinW_len (stepWs s) (stepWs s).length (Nat.le_refl _)
                        rw [List.take_length] at h1
                        have := LJ.out
                        simp only [List.length_cons, List.length_nil]
                        omega)
                      have FE : Hid ((Ending.returned (.tuple #[.string ⟨(lineT s).toArray⟩, .int .i64 (stepE s)])) = .returned (.tuple #[.string N1, .int .i64 0])) := hid (by rw [hE, hz0, e1]; unfold lineT; rw [if_neg (by rw [hE, hz0]; simp)]; rfl)
                      clear f2 f3 hw hE e1 O58 OV DGl LJ hz hz0 ol
                      generalize ByteArray.mk (joinW (stepWs s)).toArray = XJ at *
                      generalize hdg : (DGf k FR s i).length = dg at *
                      generalize s.o.vals = OVV at *
                      generalize opWs s.o = OWW at *
                      generalize (LVf FR s i).toArray = LA at *
                      go_wp2_with (first | (refine wpList_load_row rfl 43 _ rfl L rfl 43 LA (0, 0) _ HL.out Tryz.underlying43 rfl IW.out ?_) | (refine wpList_load_mid rfl 41 _ rfl B 5 rfl OVV _ RGo.out Tryz.underlying41 rfl I41.out ?_) | (go_at_call 58; refine Q.out.mono ?_; rintro e w9 ⟨v4, rfl, A9⟩; have ap := AP.out v4 w9 A9; clear A9; obtain ⟨v5, w5, hr5, A5⟩ := ap; have R5 := hid hr5; have K5 := hid A5; clear hr5 A5) | (at_builtin; refine wpList_append_run rfl _ _ 46 rfl _ _ _ _ rfl rfl R5.out ?_) | (go_at_call 31; refine (JN.out _ _ K5.out).mono ?_; rintro e w6 ⟨rfl, b6⟩; have K6 := hid (K5.out.later b6); clear b6))
                      go_ret2
                      exact ⟨FE.out.symm, K6.out.tail⟩
end Go.Proofs.YtblojlaifnmimaaGreatDoor

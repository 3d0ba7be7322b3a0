import Derived.Deep.CutBlock
import Derived.Test.YteloaggebkbeeaaDoorJ25
import Derived.Test.YteloaggebkbeeaaDoorPx18
namespace Go.Proofs.YteloaggebkbeeaaDoor
open Go.RowKit
set_option linter.unusedVariables false

theorem so_ranges {o : So} {OB : Nat} {W : World} (hb : W.heap[OB]? = some (.cells o.cells.toArray 43 (0, 0))) : W.rangeAt OB 8 o.opC ∧ W.rangeAt OB 13 o.m.cells ∧ W.cell? ⟨OB, 0, none⟩ = some (.int .i64 o.k) ∧ W.cell? ⟨OB, 3, none⟩ = some (.int .i64 o.who) ∧ W.cell? ⟨OB, 5, none⟩ = some (.int .i64 o.fr) ∧ W.cell? ⟨OB, 6, none⟩ = some (.int .i64 o.vw) ∧ W.cell? ⟨OB, 7, none⟩ = some (.int .i64 o.nu) := by
  have il : o.ints.length = 8 := rfl
  have ol : o.opC.length = 5 := rfl
  refine ⟨fun j u hu => ?_, fun j u hu => ?_, by rw [cell_at hb]; rfl, by rw [cell_at hb]; rfl, by rw [cell_at hb]; rfl, by rw [cell_at hb]; rfl, by rw [cell_at hb]; rfl⟩
  · have hj := (List.getElem?_eq_some_iff.1 hu).1
    rw [cell_at hb, List.getElem?_toArray]
    unfold So.cells
    rw [List.getElem?_append_right (by omega), il, show 8 + j - 8 = j by omega, List.getElem?_append_left hj]
    exact hu
  · have hj := (List.getElem?_eq_some_iff.1 hu).1
    rw [cell_at hb, List.getElem?_toArray]
    unfold So.cells
    rw [List.getElem?_append_right (by omega), il, List.getElem?_append_right (by omega), ol, show 13 + j - 8 - 5 = j by omega, List.getElem?_append_left hj]
    exact hu
theorem dropm {l cs : List Comp} {d : Comp} {w : World} (h : All (l ++ d :: cs) w) : All (l ++ cs) w := (h.perm List.perm_middle).tail
theorem field45 (a b c d e f : Int) (W : World) : (Instr.field 45 (.agg #[.int .i64 a, .int .i64 b, .int .i64 c, .int .i64 d, .int .i64 e, .int .i64 f]) 1).run Tryd.prog W = .ok (.int .i64 b) W := by kernel_rfl
theorem info32L : (Tryd.prog.info? 32).map (·.size) = some 5 := by kernel_rfl
theorem info43 : (Tryd.prog.info? 43).map (·.size) = some 39 := by kernel_rfl
theorem info45 : (Tryd.prog.info? 45).map (·.size) = some 6 := by kernel_rfl
theorem So.one (o : So) : o.cells.toArray.all (·.oneCell') = true := by simp [So.cells, So.ints, So.opC, Ms.cells, Value.oneCell']
theorem px0_on {N : Nat} {p1 p2 : Nat} {b m : Int} (hN : N = 3 ∨ N = 5 ∨ N = 7) (hb : 1 ≤ b ∧ b ≤ m ∧ m ≤ 1024) : On (px0 (N : Int) 0 p1 p2) N 0 0 0 b m b b :=
  ⟨rfl, hN, rfl, Int.le_refl _, Int.le_refl _, fun h => by simp [px0, wt0] at h, Int.le_refl _, Int.le_refl _, fun h => by simp [px0, wt0] at h, rfl, fun h => by simp [px0, wt0] at h, fun h => by simp [px0, wt0] at h, fun h => by simp [px0, wt0] at h, Int.le_refl _, Int.le_refl _, (by show (0 : Int) ≤ 7; decide), Int.le_refl _, Int.le_refl _, hb, ⟨hb.1, hb.2.1⟩, hb.1, hb.2.1⟩
set_option maxHeartbeats 12800000 in
set_option maxRecDepth 1000000 in
theorem once_law {w : World} (hT : Tab w) (hF : Fld w) (c : Cg) {v : Value} {l : List So} (hl : SosAt w v l) (hn : l.length * 424 ≤ 140737488351232) :
    Calls Tryd.prog 3 #[.agg c.cells.toArray, v] w fun e w' => e = .returned (.bool true) ∧ Below w.heap.size w w' := by
  obtain ⟨cc, hcc⟩ : ∃ cc, Hid (cc = c.right) := ⟨_, hid rfl⟩
  have hok : cc.ok = true := by rw [hcc.out]; exact c.right_ok
  have BD := hid (cfg_bounds hok)
  obtain ⟨N, hN⟩ : ∃ N : Nat, Hid (cc.a0 = (N : Int)) := ⟨cc.a0.toNat, hid (by have := BD.out; omega)⟩
  have hN7 : Hid (N = 3 ∨ N = 5 ∨ N = 7) := hid (by have := BD.out; have := hN.out; omega)
  obtain ⟨C0, hC0⟩ : ∃ b, Hid (b = w.heap.size) := ⟨_, hid rfl⟩
  obtain ⟨CL, hCL⟩ : ∃ CL, Hid (CL = c.cells) := ⟨_, hid rfl⟩
  have A1 : Hid (All [blkC C0 CL 23, inC w] (w.alloc (.cells CL.toArray 23))) := hid (by
    have := (All.came w).addBlk c.cells 23
    rw [hC0.out, hCL.out]
    exact this)
  have C6 : Hid (∀ W, Below w.heap.size w W → Calls Tryd.prog 6 #[] W fun e w' => e = .returned (.bool true) ∧ Below W.heap.size W w') := hid (fun W hW => shown_any (hT.below hW) (hF.below hW))
  have C8 : Hid (∀ W cs, All cs W → Calls Tryd.prog 8 #[.agg CL.toArray] W fun e w' => e = .returned (.agg cc.cells.toArray) ∧ All cs w') := hid (fun W cs hW => by rw [hcc.out, hCL.out]; exact right_any hW c)
  have C7 : Hid (∀ W cs, All cs W → Calls Tryd.prog 7 #[.agg cc.cells.toArray, .int .i64 0] W fun e w' => ∃ P p1 p2, e = .returned (.tuple #[.pointer (some ⟨P, 0, none⟩), .int .i64 0]) ∧ All (pxL P (px0 (N : Int) 0 p1 p2) cc.a6 cc.a5 cc.a6 cc.a6 ++ cs) w') := hid (fun W cs hW => by rw [← hN.out]; exact Cg.new hW cc hok)
  have I23 : Hid ((Tryd.prog.info? 23).map (·.size) = some CL.toArray.size) := hid (by rw [hCL.out]; exact info23)
  have F0 : ∀ W, (Instr.field 23 (.agg cc.cells.toArray) 0).run Tryd.prog W = .ok (.int .i64 (N : Int)) W := fun W => by
    rw [← hN.out]
    kernel_rfl
  obtain ⟨PD, hPD⟩ : ∃ PD, Hid (PD = cc.cells.toArray) := ⟨_, hid rfl⟩
  rw [← hPD.out] at C8 C7 F0
  rw [← hCL.out]
  have HT := hid hT
  have HF := hid hF
  obtain ⟨ao, cp, rfl, hcp, hx⟩ := hl
  have SO := hid hx
  have HL := hid hn
  have hbm : Hid (1 ≤ cc.a6 ∧ cc.a6 ≤ cc.a5 ∧ cc.a5 ≤ 1024) := hid (by have := BD.out; omega)
  clear hT hF hok hx hn
  generalize cc.a6 = b at *
  generalize cc.a5 = m at *
  have NL : Hid (l.length ≤ 400000000000) := hid (by have := HL.out; omega)
  have LI : Hid (∀ i, i < l.length → ∃ o, l[i]? = some o) := hid (fun i hi => ⟨_, List.getElem?_eq_getElem hi⟩)
  have hnl := NL.out
  generalize l.length = n at *
  go_enter Tryd.func3, Tryd.ntmps3
  go_upto_region 1 with fail
  simp only [← hC0.out]
  generalize w.alloc (.cells CL.toArray 23) = w1 at A1 ⊢
  go_upto_region 2 with (go_at_call 6; refine (C6.out _ (A1.out.into (by simp))).mono ?_; rintro e w2 ⟨rfl, BB⟩; have A2 := hid (A1.out.later BB); clear BB)
  clear A1 C6
  have H2 := hid (A2.out.blk (g := C0) (vs := CL) (t := 23) (by simp))
  go_upto_region 3 with (first | (refine wpList_load_row rfl 23 _ rfl C0 rfl 23 CL.toArray (0, 0) _ H2.out Tryd.underlying23 rfl I23.out ?_) | (go_at_call 8; refine (C8.out _ _ A2.out).mono ?_; rintro e w3 ⟨rfl, hw3⟩; have A3 := hid hw3; clear hw3) | (go_at_call 7; refine (C7.out _ _ A3.out).mono ?_; rintro e w4 ⟨P, p1, p2, rfl, hw4⟩; have A4 := hid hw4; clear hw4))
  clear H2 A2 A3 C7
  have H4 := hid (A4.out.blk (g := C0) (vs := CL) (t := 23) (by simp))
  go_upto_block 0 with (first | (refine wpList_load_row rfl 23 _ rfl C0 rfl 23 CL.toArray (0, 0) _ H4.out Tryd.underlying23 rfl I23.out ?_) | (go_at_call 8; refine (C8.out _ _ A4.out).mono ?_; rintro e w5 ⟨rfl, hw5⟩; have A5 := hid hw5; clear hw5))
  clear H4 A4 C8 F0
  have O0 := hid (px0_on (p1 := p1) (p2 := p2) hN7.out hbm.out)
  generalize hX0 : px0 (N : Int) 0 p1 p2 = X0 at *
  have s0 : X0.seen = 0 := by rw [← hX0]; rfl
  have v0 : X0.view = 0 := by rw [← hX0]; rfl
  have S0 := hid s0
  have V0 := hid v0
  clear hX0 s0 v0
  go_wp2_with fail
  go_loopw [9, 10, 11, 12, 13] (fun av lv sv vv iv wr => ∃ (i : Nat) (x : Px) (n1 n2 asked least : Int), i ≤ n ∧ iv = .int .i64 (i : Int) ∧ av = .int .i64 asked ∧ lv = .int .i64 least ∧ sv = .int .i64 x.seen ∧ vv = .int .i64 x.view ∧ Hid (On x N i asked least b m n1 n2) ∧ Hid (All (pxL P x b m n1 n2 ++ [blkC C0 CL 23, inC w]) wr)) (fun _ _ _ _ iv _ => n - (intOf iv).toNat)
  case atStart => exact ⟨0, X0, b, b, 0, 0, Nat.zero_le _, rfl, rfl, rfl, by rw [S0.out], by rw [V0.out], O0, A5⟩
  case round =>
    obtain ⟨i, x, n1, n2, asked, least, hi, rfl, rfl, rfl, rfl, rfl, hO, HA⟩ := hrel
    clear A5 O0 S0 V0
    by_cases hlt : i < n
    · have hlt' : (i : Int) < (n : Int) := by omega
      obtain ⟨o, ho⟩ := LI.out i hlt
      obtain ⟨hso', g, off, hao, hg, hr⟩ := SO.out i o ho
      subst hao
      have hso := hid hso'
      have BW := hid (HA.out.into (w0 := w) (by simp))
      have RO : Hid (wr.rangeAt g (off + i * 39) o.cells) := hid (fun j u hu => cell_under BW.out hg (hr j u hu))
      have I43 : Hid ((Tryd.prog.info? 43).map (·.size) = some o.cells.length) := hid info43
      have J43 : Hid ((Tryd.prog.info? 43).map (·.size) = some o.cells.toArray.size) := hid info43
      have O43 := hid o.one
      have Z43 : Hid (39 = o.cells.toArray.size) := hid rfl
      have SRR : Hid (∀ (OB : Nat) (W : World), W.heap[OB]? = some (.cells o.cells.toArray 43 (0, 0)) → W.rangeAt OB 8 o.opC ∧ W.rangeAt OB 13 o.m.cells ∧ W.cell? ⟨OB, 0, none⟩ = some (.int .i64 o.k) ∧ W.cell? ⟨OB, 3, none⟩ = some (.int .i64 o.who) ∧ W.cell? ⟨OB, 5, none⟩ = some (.int .i64 o.fr) ∧ W.cell? ⟨OB, 6, none⟩ = some (.int .i64 o.vw) ∧ W.cell? ⟨OB, 7, none⟩ = some (.int .i64 o.nu)) := hid (fun OB W hb => so_ranges hb)
      clear hso' hr hg ho BW
      generalize o.cells = OC at *
      go_upto_region 14 with (first | (refine wpList_load_mid rfl 43 _ rfl g (off + i * 39) rfl OC _ RO.out Tryd.underlying43 rfl I43.out ?_) | (refine wpList_store_row rfl 43 _ _ rfl wr.heap.size OC.toArray rfl rfl 43 _ (heap_alloc_new wr _) J43.out Z43.out O43.out ?_; rw [World.setRow_alloc_new]))
      have K1 : Hid (All (pxL P x b m n1 n2 ++ (blkC wr.heap.size OC 43 :: [blkC C0 CL 23, inC w])) (wr.alloc (.cells OC.toArray 43))) := hid ((HA.out.addBlk OC 43).perm (List.perm_middle (l₁ := pxL P x b m n1 n2)).symm)
      clear RO I43 J43 O43 Z43 HA
      generalize wr.heap.size = OB at *
      generalize wr.alloc (.cells OC.toArray 43) = w2 at *
      have SR2 := hid (fun W => SRR.out OB W)
      clear SRR
      have D9 := hid (desk_any K1.out)
      obtain ⟨DW, hDW⟩ : ∃ DW, Hid (DW = x.desk) := ⟨_, hid rfl⟩
      rw [← hDW.out] at D9
      have I45 : Hid ((Tryd.prog.info? 45).map (·.size) = some DW.toArray.size) := hid (by rw [hDW.out]; exact info45)
      have O45 : Hid (DW.toArray.all (·.oneCell') = true) := hid (by rw [hDW.out]; simp [Px.desk, Value.oneCell'])
      have Z45 : Hid (6 = DW.toArray.size) := hid (by rw [hDW.out]; rfl)
      go_upto_region 15 with (first | (go_at_call 9; refine D9.out.mono ?_; rintro e w3 ⟨rfl, hw3⟩; have K2 := hid hw3; clear hw3) | (refine wpList_store_row rfl 45 _ _ rfl w3.heap.size DW.toArray rfl rfl 45 _ (heap_alloc_new w3 _) I45.out Z45.out O45.out ?_; rw [World.setRow_alloc_new]))
      have K4 : Hid (All (pxL P x b m n1 n2 ++ (blkC w3.heap.size DW 45 :: blkC OB OC 43 :: [blkC C0 CL 23, inC w])) (w3.alloc (.cells DW.toArray 45))) := hid ((K2.out.addBlk DW 45).perm (List.perm_middle (l₁ := pxL P x b m n1 n2)).symm)
      clear K1 K2 D9 I45 O45 Z45
      generalize w3.heap.size = WB at *
      generalize w3.alloc (.cells DW.toArray 45) = w4 at *
      go_upto_region 17 with fail
      have K3 : Hid (All (pxL P x b m n1 n2 ++ (blkC w4.heap.size [.bool false, .int .i64 0, .int .i64 0, .int .i64 0, .int .i64 0, .int .i64 0, .slice none 0 0] 48 :: (blkC WB DW 45 :: blkC OB OC 43 :: [blkC C0 CL 23, inC w]))) (w4.alloc (.cells #[.bool false, .int .i64 0, .int .i64 0, .int .i64 0, .int .i64 0, .int .i64 0, .slice none 0 0] 48))) := hid ((K4.out.addBlk [.bool false, .int .i64 0, .int .i64 0, .int .i64 0, .int .i64 0, .int .i64 0, .slice none 0 0] 48).perm (List.perm_middle (l₁ := pxL P x b m n1 n2)).symm)
      clear K4
      generalize w4.heap.size = AB at *
      generalize w4.alloc (.cells #[.bool false, .int .i64 0, .int .i64 0, .int .i64 0, .int .i64 0, .int .i64 0, .slice none 0 0] 48) = w5 at *
      have ok0 := (SR2.out _ (K3.out.blk (by simp))).2.2.1
      go_upto_block 2 with fail
      clear ok0
      go_cut [9, 10, 17] (fun av lv iv wx => ∃ (x' : Px) (n1' n2' asked' least' : Int) (is ak : Bool) (nb nm wh : Int) (c4 c5 c6 : Value), av = .int .i64 asked' ∧ lv = .int .i64 least' ∧ iv = .bool is ∧ Hid (On x' N (i + 1) asked' least' b m n1' n2') ∧ Hid (Tl x x' is ak nb nm asked' least') ∧ Hid (All (pxL P x' b m n1' n2' ++ (blkC AB [.bool ak, .int .i64 nb, .int .i64 nm, .int .i64 wh, c4, c5, c6] 48 :: (blkC WB DW 45 :: blkC OB OC 43 :: [blkC C0 CL 23, inC w]))) wx))
      case first =>
        by_cases h1 : o.k = 1
        · have e1 : (o.k == 1) = true := by simpa using h1
          clear h1
          as_aux_lemma =>
            have RP := hid (SR2.out _ (K3.out.blk (by simp))).1
            have J32 : Hid ((Tryd.prog.info? 32).map (·.size) = some o.opC.length) := hid info32L
            have EO : Hid (Value.agg o.opC.toArray = opV o.ok o.onm o.otx o.onn o.omm) := hid rfl
            have WC : Hid (∀ W y p q ab, All (pxL P y b m p q ++ (blkC AB ab 48 :: (blkC WB DW 45 :: blkC OB OC 43 :: [blkC C0 CL 23, inC w]))) W → (fun W => W.cell? ⟨WB, 1, none⟩ = some (.int .i64 x.rqO) ∧ W.cell? ⟨WB, 5, none⟩ = some (.int .i64 x.rq.num)) W) := hid (fun W y p q ab hW => by
              have := hW.blk (g := WB) (vs := DW) (t := 45) (by simp)
              rw [hDW.out] at this
              exact ⟨by rw [cell_at this]; rfl, by rw [cell_at this]; rfl⟩)
            have C11 : Hid (∀ W, Calls Tryd.prog 11 #[.agg o.opC.toArray] W fun e w' => e = .returned (.int .i64 (chkA o.ok o.onm.size o.otx.size o.onn o.omm)) ∧ Below W.heap.size W w') := hid (fun W => by rw [EO.out]; exact rcheck_any o.ok o.onm o.otx o.onn o.omm)
            have HU := hid hO.out.up
            by_cases hc : chkA o.ok o.onm.size o.otx.size o.onn o.omm = 0
            · rw [hc] at C11
              by_cases hw : x.rq.wts = true
              · have S10 := hid (submit_no K3.out HT.out (by simp) o.ok o.onm o.otx o.onn o.omm hc (E := 141) (by decide) (fun W cs' hW => begR_busy hW hw _ ⟨_, _, _, _, _, rfl⟩))
                rw [← EO.out] at S10
                have hr := (hO.out.rqO0.1 hw).2
                have hr' : (x.rqO == 0) = false := by simpa using hr
                clear hw hc hr EO
                generalize o.opC = OP at *
                generalize x.rqO = R0 at *
                generalize x.rq.num = L0 at *
                go_upto_region 21 with (first | (refine wpList_load_mid rfl 32 _ rfl OB 8 rfl OP _ RP.out Tryd.underlying32 rfl J32.out ?_) | (go_at_call 10; refine S10.out.mono ?_; rintro e w6 ⟨rfl, A6⟩; have K6 := hid A6; clear A6; have RP6 := hid (SR2.out _ (K6.out.blk (by simp))).1) | (refine wpList_load_mid rfl 32 _ rfl OB 8 rfl OP _ RP6.out Tryd.underlying32 rfl J32.out ?_) | (go_at_call 11; refine (C11.out _).mono ?_; rintro e w7 ⟨rfl, B7⟩; have K7 := hid (K6.out.later B7); clear B7))
                obtain ⟨y1, y5⟩ := WC.out _ _ _ _ _ K7.out
                have z1 : w7.drew.cell? ⟨WB, 1, none⟩ = some (.int .i64 R0) := y1
                have z5 : w7.drew.cell? ⟨WB, 5, none⟩ = some (.int .i64 L0) := y5
                go_quiet (fail)
                go_wp2
                go_meet
                exact ⟨x, n1, n2, asked, least, false, false, 0, 0, 0, .int .i64 0, .int .i64 0, .slice none 0 0, rfl, rfl, rfl, HU, hid Tl.same, hid (K7.out.drewN _)⟩
              · have hw' : x.rq.wts = false := by simpa using hw
                have q1 := hO.out.r1
                have q0 := hO.out.r0
                have S10 := hid (submit_ok K3.out HT.out (by simp) o.ok o.onm o.otx o.onn o.omm hc hw' hO.out.r0 (by omega) hO.out.b1.1 hO.out.b1.2 hO.out.bm.2.2 (by have := hO.out.n; have := hO.out.N7; omega) hO.out.v)
                rw [← EO.out] at S10
                have ho2 := hid (hO.out.sub hw' o.ok o.onm o.otx o.onn o.omm)
                have r0 : x.rqO = 0 := hO.out.rqO0.2 hw'
                have DN : Hid ((x.sub o.ok o.onm o.otx o.onn o.omm n1).desk.toArray = #[.int .i64 x.id, .int .i64 (x.rq.num + 1), .int .i64 x.quO, .int .i64 x.seen, .int .i64 x.view, .int .i64 (x.rq.num + 1)]) := hid rfl
                have D9b : Hid (∀ W, All (pxL P (x.sub o.ok o.onm o.otx o.onn o.omm n1) b m (min (2 * n1) m) n2 ++ (blkC AB [.bool false, .int .i64 0, .int .i64 0, .int .i64 0, .int .i64 0, .int .i64 0, .slice none 0 0] 48 :: (blkC WB DW 45 :: blkC OB OC 43 :: [blkC C0 CL 23, inC w]))) W → Calls Tryd.prog 9 #[.pointer (some ⟨P, 0, none⟩)] W fun e w' => e = .returned (.agg #[.int .i64 x.id, .int .i64 (x.rq.num + 1), .int .i64 x.quO, .int .i64 x.seen, .int .i64 x.view, .int .i64 (x.rq.num + 1)]) ∧ All (pxL P (x.sub o.ok o.onm o.otx o.onn o.omm n1) b m (min (2 * n1) m) n2 ++ (blkC AB [.bool false, .int .i64 0, .int .i64 0, .int .i64 0, .int .i64 0, .int .i64 0, .slice none 0 0] 48 :: (blkC WB DW 45 :: blkC OB OC 43 :: [blkC C0 CL 23, inC w]))) w') := hid (fun W hW => by have := desk_any hW; rw [DN.out] at this; exact this)
                have lw : x.rq.num < 1099511627776 := by omega
                have wn : IntKind.i64.wrap (x.rq.num + 1) = x.rq.num + 1 := by rw [IntKind.wrap_i64]; omega
                rw [r0] at WC
                clear hw hw' hc EO DN q1 r0
                generalize o.opC = OP at *
                generalize x.sub o.ok o.onm o.otx o.onn o.omm n1 = X2 at *
                generalize min (2 * n1) m = n12 at *
                generalize x.rq.num = L0 at *
                generalize x.quO = Q0 at *
                go_upto_region 21 with (first | (refine wpList_load_mid rfl 32 _ rfl OB 8 rfl OP _ RP.out Tryd.underlying32 rfl J32.out ?_) | (go_at_call 10; refine S10.out.mono ?_; rintro e w6 ⟨G6, rfl, A60⟩; have A6 := A60.tail; clear A60; have K6 := hid A6; clear A6; have RP6 := hid (SR2.out _ (K6.out.blk (by simp))).1) | (refine wpList_load_mid rfl 32 _ rfl OB 8 rfl OP _ RP6.out Tryd.underlying32 rfl J32.out ?_) | (go_at_call 11; refine (C11.out _).mono ?_; rintro e w7 ⟨rfl, B7⟩; have K7 := hid (K6.out.later B7); clear B7))
                obtain ⟨y1, y5⟩ := WC.out _ _ _ _ _ K7.out
                clear y1 y5
                have F45 := fun W => field45 x.id (L0 + 1) Q0 x.seen x.view (L0 + 1) W
                refine wp_region_held_drew (S := (fun W => W.cell? ⟨WB, 1, none⟩ = some (.int .i64 0) ∧ W.cell? ⟨WB, 5, none⟩ = some (.int .i64 L0))) (by kernel_rfl) (WC.out _ _ _ _ _ K7.out.drew) (fun hHeld => ?_)
                refine wpAnyH_take (i := 0) (oi := { dst := Option.some 73, op := Go.Op.move (Go.Operand.tmp 20), type := 4, pos := "law.go:324", after := #[], guard := Option.none }) (v := ?_) rfl (by kernel_rfl) (by kernel_rfl) (by kernel_rfl) (fun _ _ _ h => h) (Or.inl ⟨by rfl, ?_⟩) hHeld ?_
                rotate_left
                · intro W hSw
                  (try dsimp only at hSw)
                  go_simp
                  (try with_reducible rfl)
                (try simp only [Act.put, List.setIfInBounds_toArray, List.set_cons_zero, List.set_cons_succ])
                refine wpAnyH_take (i := 1) (oi := { dst := Option.some 74, op := Go.Op.move (Go.Operand.tmp 73), type := 4, pos := "law.go:324", after := #[{ on := 0, ground := Go.Ground.data }], guard := Option.none }) (v := ?_) rfl (by kernel_rfl) (by kernel_rfl) (by kernel_rfl) (fun _ _ _ h => h) (Or.inl ⟨by rfl, ?_⟩) hHeld ?_
                rotate_left
                · intro W hSw
                  (try dsimp only at hSw)
                  go_simp
                  (try with_reducible rfl)
                (try simp only [Act.put, List.setIfInBounds_toArray, List.set_cons_zero, List.set_cons_succ])
                refine wpAnyH_take (i := 2) (oi := { dst := Option.some 75, op := Go.Op.fieldAddr 45 (Go.Operand.tmp 15) 1, type := 0, pos := "law.go:324", after := #[{ on := 1, ground := Go.Ground.guard }], guard := Option.some (1, Bool.true) }) (v := ?_) rfl (by kernel_rfl) (by kernel_rfl) (by kernel_rfl) (fun _ _ _ h => h) (Or.inl ⟨by rfl, ?_⟩) hHeld ?_
                rotate_left
                · intro W hSw
                  (try dsimp only at hSw)
                  go_simp
                  (try with_reducible rfl)
                (try simp only [Act.put, List.setIfInBounds_toArray, List.set_cons_zero, List.set_cons_succ])
                refine wpAnyH_take (i := 3) (oi := { dst := Option.some 76, op := Go.Op.load 3 (Go.Operand.tmp 75), type := 3, pos := "law.go:324", after := #[{ on := 2, ground := Go.Ground.data }, { on := 1, ground := Go.Ground.guard }], guard := Option.some (1, Bool.true) }) (v := ?_) rfl (by kernel_rfl) (by kernel_rfl) (by kernel_rfl) (fun _ _ _ h => h) (Or.inl ⟨by rfl, ?_⟩) hHeld ?_
                rotate_left
                · intro W hSw
                  (try dsimp only at hSw)
                  go_simp
                  (try with_reducible rfl)
                (try simp only [Act.put, List.setIfInBounds_toArray, List.set_cons_zero, List.set_cons_succ])
                refine wpAnyH_take (i := 4) (oi := { dst := Option.some 77, op := Go.Op.binOp Go.BinOp.eql 3 (Go.Operand.tmp 76) (Go.Operand.const (Go.Value.int Go.IntKind.i64 0)) 3, type := 4, pos := "law.go:324", after := #[{ on := 3, ground := Go.Ground.data }, { on := 1, ground := Go.Ground.guard }], guard := Option.some (1, Bool.true) }) (v := ?_) rfl (by kernel_rfl) (by kernel_rfl) (by kernel_rfl) (fun _ _ _ h => h) (Or.inl ⟨by rfl, ?_⟩) hHeld ?_
                rotate_left
                · intro W hSw
                  (try dsimp only at hSw)
                  go_simp
                  (try with_reducible rfl)
                (try simp only [Act.put, List.setIfInBounds_toArray, List.set_cons_zero, List.set_cons_succ])
                refine wpAnyH_take (i := 5) (oi := { dst := Option.some 78, op := Go.Op.pick (Go.Operand.tmp 74) (Go.Operand.tmp 77) (Go.Operand.const (Go.Value.bool Bool.false)), type := 4, pos := "law.go:324", after := #[{ on := 1, ground := Go.Ground.data }, { on := 4, ground := Go.Ground.data }], guard := Option.none }) (v := ?_) rfl (by kernel_rfl) (by kernel_rfl) (by kernel_rfl) (fun _ _ _ h => h) (Or.inl ⟨by rfl, ?_⟩) hHeld ?_
                rotate_left
                · intro W hSw
                  (try dsimp only at hSw)
                  go_simp
                  (try with_reducible rfl)
                (try simp only [Act.put, List.setIfInBounds_toArray, List.set_cons_zero, List.set_cons_succ])
                refine wpAnyH_take (i := 6) (oi := { dst := Option.some 79, op := Go.Op.move (Go.Operand.tmp 78), type := 4, pos := "law.go:324", after := #[{ on := 5, ground := Go.Ground.data }, { on := 1, ground := Go.Ground.chain }], guard := Option.none }) (v := ?_) rfl (by kernel_rfl) (by kernel_rfl) (by kernel_rfl) (fun _ _ _ h => h) (Or.inl ⟨by rfl, ?_⟩) hHeld ?_
                rotate_left
                · intro W hSw
                  (try dsimp only at hSw)
                  go_simp
                  (try with_reducible rfl)
                (try simp only [Act.put, List.setIfInBounds_toArray, List.set_cons_zero, List.set_cons_succ])
                refine wpAnyH_take (i := 7) (oi := { dst := Option.some 80, op := Go.Op.fieldAddr 45 (Go.Operand.tmp 15) 5, type := 0, pos := "law.go:324", after := #[{ on := 6, ground := Go.Ground.guard }], guard := Option.some (6, Bool.true) }) (v := ?_) rfl (by kernel_rfl) (by kernel_rfl) (by kernel_rfl) (fun _ _ _ h => h) (Or.inl ⟨by rfl, ?_⟩) hHeld ?_
                rotate_left
                · intro W hSw
                  (try dsimp only at hSw)
                  go_simp
                  (try with_reducible rfl)
                (try simp only [Act.put, List.setIfInBounds_toArray, List.set_cons_zero, List.set_cons_succ])
                refine wpAnyH_take (i := 8) (oi := { dst := Option.some 81, op := Go.Op.load 3 (Go.Operand.tmp 80), type := 3, pos := "law.go:324", after := #[{ on := 7, ground := Go.Ground.data }, { on := 6, ground := Go.Ground.guard }], guard := Option.some (6, Bool.true) }) (v := ?_) rfl (by kernel_rfl) (by kernel_rfl) (by kernel_rfl) (fun _ _ _ h => h) (Or.inl ⟨by rfl, ?_⟩) hHeld ?_
                rotate_left
                · intro W hSw
                  (try dsimp only at hSw)
                  go_simp
                  (try with_reducible rfl)
                (try simp only [Act.put, List.setIfInBounds_toArray, List.set_cons_zero, List.set_cons_succ])
                refine wpAnyH_take (i := 9) (oi := { dst := Option.some 82, op := Go.Op.binOp Go.BinOp.lss 3 (Go.Operand.tmp 81) (Go.Operand.const (Go.Value.int Go.IntKind.i64 1099511627776)) 3, type := 4, pos := "law.go:324", after := #[{ on := 8, ground := Go.Ground.data }, { on := 6, ground := Go.Ground.guard }], guard := Option.some (6, Bool.true) }) (v := ?_) rfl (by kernel_rfl) (by kernel_rfl) (by kernel_rfl) (fun _ _ _ h => h) (Or.inl ⟨by rfl, ?_⟩) hHeld ?_
                rotate_left
                · intro W hSw
                  (try dsimp only at hSw)
                  go_simp
                  (try with_reducible rfl)
                (try simp only [Act.put, List.setIfInBounds_toArray, List.set_cons_zero, List.set_cons_succ])
                refine wpAnyH_take (i := 10) (oi := { dst := Option.some 83, op := Go.Op.pick (Go.Operand.tmp 79) (Go.Operand.tmp 82) (Go.Operand.const (Go.Value.bool Bool.false)), type := 4, pos := "law.go:324", after := #[{ on := 6, ground := Go.Ground.data }, { on := 9, ground := Go.Ground.data }], guard := Option.none }) (v := ?_) rfl (by kernel_rfl) (by kernel_rfl) (by kernel_rfl) (fun _ _ _ h => h) (Or.inl ⟨by rfl, ?_⟩) hHeld ?_
                rotate_left
                · intro W hSw
                  (try dsimp only at hSw)
                  go_simp
                  (try with_reducible rfl)
                (try simp only [Act.put, List.setIfInBounds_toArray, List.set_cons_zero, List.set_cons_succ])
                refine wpAnyH_take (i := 11) (oi := { dst := Option.some 84, op := Go.Op.move (Go.Operand.tmp 83), type := 4, pos := "law.go:324", after := #[{ on := 10, ground := Go.Ground.data }, { on := 6, ground := Go.Ground.chain }], guard := Option.none }) (v := ?_) rfl (by kernel_rfl) (by kernel_rfl) (by kernel_rfl) (fun _ _ _ h => h) (Or.inl ⟨by rfl, ?_⟩) hHeld ?_
                rotate_left
                · intro W hSw
                  (try dsimp only at hSw)
                  go_simp
                  (try with_reducible rfl)
                (try simp only [Act.put, List.setIfInBounds_toArray, List.set_cons_zero, List.set_cons_succ])
                refine wpAnyH_take (i := 12) (oi := { dst := Option.some 85, op := Go.Op.move (Go.Operand.tmp 19), type := 27, pos := "law.go:324", after := #[{ on := 11, ground := Go.Ground.guard }], guard := Option.some (11, Bool.true) }) (v := ?_) rfl (by kernel_rfl) (by kernel_rfl) (by kernel_rfl) (fun _ _ _ h => h) (Or.inl ⟨by rfl, ?_⟩) hHeld ?_
                rotate_left
                · intro W hSw
                  (try dsimp only at hSw)
                  go_simp
                  (try with_reducible rfl)
                (try simp only [Act.put, List.setIfInBounds_toArray, List.set_cons_zero, List.set_cons_succ])
                refine wpAnyH_take (i := 13) (oi := { dst := Option.some 86, op := Go.Op.binOp Go.BinOp.neq 27 (Go.Operand.tmp 85) (Go.Operand.const (Go.Value.int Go.IntKind.i64 0)) 27, type := 4, pos := "law.go:324", after := #[{ on := 12, ground := Go.Ground.data }, { on := 11, ground := Go.Ground.guard }], guard := Option.some (11, Bool.true) }) (v := ?_) rfl (by kernel_rfl) (by kernel_rfl) (by kernel_rfl) (fun _ _ _ h => h) (Or.inl ⟨by rfl, ?_⟩) hHeld ?_
                rotate_left
                · intro W hSw
                  (try dsimp only at hSw)
                  go_simp
                  (try with_reducible rfl)
                (try simp only [Act.put, List.setIfInBounds_toArray, List.set_cons_zero, List.set_cons_succ])
                refine wpAnyH_take (i := 14) (oi := { dst := Option.some 87, op := Go.Op.move (Go.Operand.tmp 86), type := 4, pos := "law.go:324", after := #[{ on := 13, ground := Go.Ground.data }, { on := 11, ground := Go.Ground.chain }, { on := 11, ground := Go.Ground.guard }], guard := Option.some (11, Bool.true) }) (v := ?_) rfl (by kernel_rfl) (by kernel_rfl) (by kernel_rfl) (fun _ _ _ h => h) (Or.inl ⟨by rfl, ?_⟩) hHeld ?_
                rotate_left
                · intro W hSw
                  (try dsimp only at hSw)
                  go_simp
                  (try with_reducible rfl)
                (try simp only [Act.put, List.setIfInBounds_toArray, List.set_cons_zero, List.set_cons_succ])
                refine wpAnyH_take (i := 15) (oi := { dst := Option.some 88, op := Go.Op.move (Go.Operand.tmp 18), type := 49, pos := "law.go:324", after := #[{ on := 14, ground := Go.Ground.guard }], guard := Option.some (14, Bool.false) }) (v := ?_) rfl (by kernel_rfl) (by kernel_rfl) (by kernel_rfl) (fun _ _ _ h => h) (Or.inl ⟨by rfl, ?_⟩) hHeld ?_
                rotate_left
                · intro W hSw
                  (try dsimp only at hSw)
                  go_simp
                  (try with_reducible rfl)
                (try simp only [Act.put, List.setIfInBounds_toArray, List.set_cons_zero, List.set_cons_succ])
                refine wpAnyH_take (i := 16) (oi := { dst := Option.some 89, op := Go.Op.call { callee := Go.Callee.builtin Go.Builtin.len, args := #[Go.Operand.tmp 88], argTypes := #[49] }, type := 3, pos := "law.go:324", after := #[{ on := 15, ground := Go.Ground.data }, { on := 14, ground := Go.Ground.guard }], guard := Option.some (14, Bool.false) }) (v := ?_) rfl (by kernel_rfl) (by kernel_rfl) (by kernel_rfl) (fun _ _ _ h => h) (Or.inl ⟨by rfl, ?_⟩) hHeld ?_
                rotate_left
                · intro W hSw
                  (try dsimp only at hSw)
                  go_simp
                  (try with_reducible rfl)
                (try simp only [Act.put, List.setIfInBounds_toArray, List.set_cons_zero, List.set_cons_succ])
                refine wpAnyH_take (i := 17) (oi := { dst := Option.some 90, op := Go.Op.binOp Go.BinOp.neq 3 (Go.Operand.tmp 89) (Go.Operand.const (Go.Value.int Go.IntKind.i64 1)) 3, type := 4, pos := "law.go:324", after := #[{ on := 16, ground := Go.Ground.data }, { on := 14, ground := Go.Ground.guard }], guard := Option.some (14, Bool.false) }) (v := ?_) rfl (by kernel_rfl) (by kernel_rfl) (by kernel_rfl) (fun _ _ _ h => h) (Or.inl ⟨by rfl, ?_⟩) hHeld ?_
                rotate_left
                · intro W hSw
                  (try dsimp only at hSw)
                  go_simp
                  (try with_reducible rfl)
                (try simp only [Act.put, List.setIfInBounds_toArray, List.set_cons_zero, List.set_cons_succ])
                refine wpAnyH_take (i := 18) (oi := { dst := Option.some 91, op := Go.Op.pick (Go.Operand.tmp 87) (Go.Operand.const (Go.Value.bool Bool.true)) (Go.Operand.tmp 90), type := 4, pos := "law.go:324", after := #[{ on := 14, ground := Go.Ground.data }, { on := 17, ground := Go.Ground.data }, { on := 11, ground := Go.Ground.guard }], guard := Option.some (11, Bool.true) }) (v := ?_) rfl (by kernel_rfl) (by kernel_rfl) (by kernel_rfl) (fun _ _ _ h => h) (Or.inl ⟨by rfl, ?_⟩) hHeld ?_
                rotate_left
                · intro W hSw
                  (try dsimp only at hSw)
                  go_simp
                  (try with_reducible rfl)
                (try simp only [Act.put, List.setIfInBounds_toArray, List.set_cons_zero, List.set_cons_succ])
                refine wpAnyH_take (i := 19) (oi := { dst := Option.some 92, op := Go.Op.move (Go.Operand.tmp 91), type := 4, pos := "law.go:324", after := #[{ on := 18, ground := Go.Ground.data }, { on := 14, ground := Go.Ground.chain }, { on := 11, ground := Go.Ground.guard }], guard := Option.some (11, Bool.true) }) (v := ?_) rfl (by kernel_rfl) (by kernel_rfl) (by kernel_rfl) (fun _ _ _ h => h) (Or.inl ⟨by rfl, ?_⟩) hHeld ?_
                rotate_left
                · intro W hSw
                  (try dsimp only at hSw)
                  go_simp
                  (try with_reducible rfl)
                (try simp only [Act.put, List.setIfInBounds_toArray, List.set_cons_zero, List.set_cons_succ])
                refine wpAnyH_take (i := 20) (oi := { dst := Option.some 93, op := Go.Op.move (Go.Operand.tmp 6), type := 26, pos := "law.go:324", after := #[{ on := 19, ground := Go.Ground.guard }], guard := Option.some (19, Bool.false) }) (v := ?_) rfl (by kernel_rfl) (by kernel_rfl) (by kernel_rfl) (fun _ _ _ h => h) (Or.inl ⟨by rfl, ?_⟩) hHeld ?_
                rotate_left
                · intro W hSw
                  (try dsimp only at hSw)
                  go_simp
                  (try with_reducible rfl)
                (try simp only [Act.put, List.setIfInBounds_toArray, List.set_cons_zero, List.set_cons_succ])
                refine wpAnyH_take (i := 23) (oi := { dst := Option.some 96, op := Go.Op.fieldAddr 45 (Go.Operand.tmp 15) 5, type := 0, pos := "law.go:324", after := #[{ on := 19, ground := Go.Ground.guard }], guard := Option.some (19, Bool.false) }) (v := ?_) rfl (by kernel_rfl) (by kernel_rfl) (by kernel_rfl) (fun _ _ _ h => h) (Or.inl ⟨by rfl, ?_⟩) hHeld ?_
                rotate_left
                · intro W hSw
                  (try dsimp only at hSw)
                  go_simp
                  (try with_reducible rfl)
                (try simp only [Act.put, List.setIfInBounds_toArray, List.set_cons_zero, List.set_cons_succ])
                refine wpAnyH_take (i := 24) (oi := { dst := Option.some 97, op := Go.Op.load 3 (Go.Operand.tmp 96), type := 3, pos := "law.go:324", after := #[{ on := 23, ground := Go.Ground.data }, { on := 19, ground := Go.Ground.guard }], guard := Option.some (19, Bool.false) }) (v := ?_) rfl (by kernel_rfl) (by kernel_rfl) (by kernel_rfl) (fun _ _ _ h => h) (Or.inl ⟨by rfl, ?_⟩) hHeld ?_
                rotate_left
                · intro W hSw
                  (try dsimp only at hSw)
                  go_simp
                  (try with_reducible rfl)
                (try simp only [Act.put, List.setIfInBounds_toArray, List.set_cons_zero, List.set_cons_succ])
                refine wpAnyH_take (i := 25) (oi := { dst := Option.some 98, op := Go.Op.binOp Go.BinOp.add 3 (Go.Operand.tmp 97) (Go.Operand.const (Go.Value.int Go.IntKind.i64 1)) 3, type := 3, pos := "law.go:324", after := #[{ on := 24, ground := Go.Ground.data }, { on := 19, ground := Go.Ground.guard }], guard := Option.some (19, Bool.false) }) (v := ?_) rfl (by kernel_rfl) (by kernel_rfl) (by kernel_rfl) (fun _ _ _ h => h) (Or.inl ⟨by rfl, ?_⟩) hHeld ?_
                rotate_left
                · intro W hSw
                  (try dsimp only at hSw)
                  go_simp
                  (try with_reducible rfl)
                (try simp only [Act.put, List.setIfInBounds_toArray, List.set_cons_zero, List.set_cons_succ])
                refine wpAnyH_ready (rs := [21]) (by kernel_rfl) (by simp) ?_
                refine AllReadyH.cons (o := { dst := Option.some 94, op := Go.Op.call { callee := Go.Callee.value (Go.Operand.func 9), args := #[Go.Operand.tmp 93], argTypes := #[26] }, type := 45, pos := "law.go:324", after := #[{ on := 20, ground := Go.Ground.data }, { on := 19, ground := Go.Ground.chain }, { on := 19, ground := Go.Ground.guard }], guard := Option.some (19, Bool.false) }) rfl (fun K hK => ?_) AllReadyH.nil
                go_simp
                go_at_call 9; refine (D9b.out _ K7.out.drew).mono ?_; rintro e w8 ⟨rfl, A8⟩; have K8 := hid A8; clear A8
                refine hK.out _ _ (WC.out _ _ _ _ _ K8.out) (fun hHeld => ?_)
                clear hK K
                (try simp only [Act.put, List.setIfInBounds_toArray, List.set_cons_zero, List.set_cons_succ])
                refine wpAnyH_take (i := 22) (oi := { dst := Option.some 95, op := Go.Op.field 45 (Go.Operand.tmp 94) 1, type := 3, pos := "law.go:324", after := #[{ on := 21, ground := Go.Ground.data }, { on := 19, ground := Go.Ground.guard }], guard := Option.some (19, Bool.false) }) (v := ?_) rfl (by kernel_rfl) (by kernel_rfl) (by kernel_rfl) (fun _ _ _ h => h) (Or.inl ⟨by rfl, ?_⟩) hHeld ?_
                rotate_left
                · intro W hSw
                  (try dsimp only at hSw)
                  go_simp
                  (try with_reducible rfl)
                (try simp only [Act.put, List.setIfInBounds_toArray, List.set_cons_zero, List.set_cons_succ])
                refine wpAnyH_take (i := 26) (oi := { dst := Option.some 99, op := Go.Op.binOp Go.BinOp.neq 3 (Go.Operand.tmp 95) (Go.Operand.tmp 98) 3, type := 4, pos := "law.go:324", after := #[{ on := 22, ground := Go.Ground.data }, { on := 25, ground := Go.Ground.data }, { on := 19, ground := Go.Ground.guard }], guard := Option.some (19, Bool.false) }) (v := ?_) rfl (by kernel_rfl) (by kernel_rfl) (by kernel_rfl) (fun _ _ _ h => h) (Or.inl ⟨by rfl, ?_⟩) hHeld ?_
                rotate_left
                · intro W hSw
                  (try dsimp only at hSw)
                  go_simp
                  (try with_reducible rfl)
                (try simp only [Act.put, List.setIfInBounds_toArray, List.set_cons_zero, List.set_cons_succ])
                refine wpAnyH_take (i := 27) (oi := { dst := Option.some 100, op := Go.Op.pick (Go.Operand.tmp 92) (Go.Operand.const (Go.Value.bool Bool.true)) (Go.Operand.tmp 99), type := 4, pos := "law.go:324", after := #[{ on := 19, ground := Go.Ground.data }, { on := 26, ground := Go.Ground.data }, { on := 11, ground := Go.Ground.guard }], guard := Option.some (11, Bool.true) }) (v := ?_) rfl (by kernel_rfl) (by kernel_rfl) (by kernel_rfl) (fun _ _ _ h => h) (Or.inl ⟨by rfl, ?_⟩) hHeld ?_
                rotate_left
                · intro W hSw
                  (try dsimp only at hSw)
                  go_simp
                  (try with_reducible rfl)
                (try simp only [Act.put, List.setIfInBounds_toArray, List.set_cons_zero, List.set_cons_succ])
                refine wpAnyH_take (i := 28) (oi := { dst := Option.some 101, op := Go.Op.pick (Go.Operand.tmp 84) (Go.Operand.tmp 100) (Go.Operand.const (Go.Value.bool Bool.false)), type := 4, pos := "law.go:324", after := #[{ on := 11, ground := Go.Ground.data }, { on := 27, ground := Go.Ground.data }], guard := Option.none }) (v := ?_) rfl (by kernel_rfl) (by kernel_rfl) (by kernel_rfl) (fun _ _ _ h => h) (Or.inl ⟨by rfl, ?_⟩) hHeld ?_
                rotate_left
                · intro W hSw
                  (try dsimp only at hSw)
                  go_simp
                  (try with_reducible rfl)
                (try simp only [Act.put, List.setIfInBounds_toArray, List.set_cons_zero, List.set_cons_succ])
                refine wpAnyH_take (i := 29) (oi := { dst := Option.some 102, op := Go.Op.move (Go.Operand.tmp 101), type := 4, pos := "law.go:324", after := #[{ on := 28, ground := Go.Ground.data }, { on := 21, ground := Go.Ground.chain }], guard := Option.none }) (v := ?_) rfl (by kernel_rfl) (by kernel_rfl) (by kernel_rfl) (fun _ _ _ h => h) (Or.inl ⟨by rfl, ?_⟩) hHeld ?_
                rotate_left
                · intro W hSw
                  (try dsimp only at hSw)
                  go_simp
                  (try with_reducible rfl)
                (try simp only [Act.put, List.setIfInBounds_toArray, List.set_cons_zero, List.set_cons_succ])
                refine wpAnyH_take (i := 30) (oi := { dst := Option.some 103, op := Go.Op.move (Go.Operand.tmp 20), type := 4, pos := "law.go:324", after := #[{ on := 29, ground := Go.Ground.guard }], guard := Option.some (29, Bool.false) }) (v := ?_) rfl (by kernel_rfl) (by kernel_rfl) (by kernel_rfl) (fun _ _ _ h => h) (Or.inl ⟨by rfl, ?_⟩) hHeld ?_
                rotate_left
                · intro W hSw
                  (try dsimp only at hSw)
                  go_simp
                  (try with_reducible rfl)
                (try simp only [Act.put, List.setIfInBounds_toArray, List.set_cons_zero, List.set_cons_succ])
                refine wpAnyH_take (i := 31) (oi := { dst := Option.some 104, op := Go.Op.unOp Go.UnOp.not 4 (Go.Operand.tmp 103), type := 4, pos := "law.go:324", after := #[{ on := 30, ground := Go.Ground.data }, { on := 29, ground := Go.Ground.guard }], guard := Option.some (29, Bool.false) }) (v := ?_) rfl (by kernel_rfl) (by kernel_rfl) (by kernel_rfl) (fun _ _ _ h => h) (Or.inl ⟨by rfl, ?_⟩) hHeld ?_
                rotate_left
                · intro W hSw
                  (try dsimp only at hSw)
                  go_simp
                  (try with_reducible rfl)
                (try simp only [Act.put, List.setIfInBounds_toArray, List.set_cons_zero, List.set_cons_succ])
                refine wpAnyH_take (i := 32) (oi := { dst := Option.some 105, op := Go.Op.move (Go.Operand.tmp 104), type := 4, pos := "law.go:324", after := #[{ on := 31, ground := Go.Ground.data }, { on := 29, ground := Go.Ground.chain }, { on := 29, ground := Go.Ground.guard }], guard := Option.some (29, Bool.false) }) (v := ?_) rfl (by kernel_rfl) (by kernel_rfl) (by kernel_rfl) (fun _ _ _ h => h) (Or.inl ⟨by rfl, ?_⟩) hHeld ?_
                rotate_left
                · intro W hSw
                  (try dsimp only at hSw)
                  go_simp
                  (try with_reducible rfl)
                (try simp only [Act.put, List.setIfInBounds_toArray, List.set_cons_zero, List.set_cons_succ])
                refine wpAnyH_take (i := 33) (oi := { dst := Option.some 106, op := Go.Op.move (Go.Operand.tmp 19), type := 27, pos := "law.go:324", after := #[{ on := 32, ground := Go.Ground.guard }], guard := Option.some (32, Bool.true) }) (v := undef) rfl (by kernel_rfl) (by kernel_rfl) (by kernel_rfl) (fun _ _ _ h => h) (Or.inr ⟨by rfl, rfl⟩) hHeld ?_
                (try simp only [Act.put, List.setIfInBounds_toArray, List.set_cons_zero, List.set_cons_succ])
                refine wpAnyH_take (i := 34) (oi := { dst := Option.some 107, op := Go.Op.binOp Go.BinOp.eql 27 (Go.Operand.tmp 106) (Go.Operand.const (Go.Value.int Go.IntKind.i64 0)) 27, type := 4, pos := "law.go:324", after := #[{ on := 33, ground := Go.Ground.data }, { on := 32, ground := Go.Ground.guard }], guard := Option.some (32, Bool.true) }) (v := undef) rfl (by kernel_rfl) (by kernel_rfl) (by kernel_rfl) (fun _ _ _ h => h) (Or.inr ⟨by rfl, rfl⟩) hHeld ?_
                (try simp only [Act.put, List.setIfInBounds_toArray, List.set_cons_zero, List.set_cons_succ])
                refine wpAnyH_take (i := 35) (oi := { dst := Option.some 108, op := Go.Op.pick (Go.Operand.tmp 105) (Go.Operand.tmp 107) (Go.Operand.const (Go.Value.bool Bool.false)), type := 4, pos := "law.go:324", after := #[{ on := 32, ground := Go.Ground.data }, { on := 34, ground := Go.Ground.data }, { on := 29, ground := Go.Ground.guard }], guard := Option.some (29, Bool.false) }) (v := ?_) rfl (by kernel_rfl) (by kernel_rfl) (by kernel_rfl) (fun _ _ _ h => h) (Or.inl ⟨by rfl, ?_⟩) hHeld ?_
                rotate_left
                · intro W hSw
                  (try dsimp only at hSw)
                  go_simp
                  (try with_reducible rfl)
                (try simp only [Act.put, List.setIfInBounds_toArray, List.set_cons_zero, List.set_cons_succ])
                refine wpAnyH_take (i := 36) (oi := { dst := Option.some 109, op := Go.Op.pick (Go.Operand.tmp 102) (Go.Operand.const (Go.Value.bool Bool.true)) (Go.Operand.tmp 108), type := 4, pos := "law.go:324", after := #[{ on := 29, ground := Go.Ground.data }, { on := 35, ground := Go.Ground.data }], guard := Option.none }) (v := ?_) rfl (by kernel_rfl) (by kernel_rfl) (by kernel_rfl) (fun _ _ _ h => h) (Or.inl ⟨by rfl, ?_⟩) hHeld ?_
                rotate_left
                · intro W hSw
                  (try dsimp only at hSw)
                  go_simp
                  (try with_reducible rfl)
                (try simp only [Act.put, List.setIfInBounds_toArray, List.set_cons_zero, List.set_cons_succ])
                refine wpAnyH_done (by kernel_rfl) ?_ _
                clear hHeld
                go_wp2
                go_meet
                exact ⟨X2, n12, n2, asked, least, false, false, 0, 0, 0, .int .i64 0, .int .i64 0, .slice none 0 0, rfl, rfl, rfl, hid ho2.out.1, hid (ho2.out.2 _ _ _), K8⟩
            · have S10 := hid (submit_bad K3.out HT.out (by simp) o.ok o.onm o.otx o.onn o.omm hc)
              rw [← EO.out] at S10
              clear EO
              generalize chkA o.ok o.onm.size o.otx.size o.onn o.omm = E at *
              have hE' : (E == 0) = false := by simpa using hc
              clear hc
              generalize o.opC = OP at *
              generalize x.rqO = R0 at *
              generalize x.rq.num = L0 at *
              · skip
                go_upto_region 21 with (first | (refine wpList_load_mid rfl 32 _ rfl OB 8 rfl OP _ RP.out Tryd.underlying32 rfl J32.out ?_) | (go_at_call 10; refine S10.out.mono ?_; rintro e w6 ⟨rfl, A6⟩; have K6 := hid A6; clear A6; have RP6 := hid (SR2.out _ (K6.out.blk (by simp))).1) | (refine wpList_load_mid rfl 32 _ rfl OB 8 rfl OP _ RP6.out Tryd.underlying32 rfl J32.out ?_) | (go_at_call 11; refine (C11.out _).mono ?_; rintro e w7 ⟨rfl, B7⟩; have K7 := hid (K6.out.later B7); clear B7))
                obtain ⟨y1, y5⟩ := WC.out _ _ _ _ _ K7.out
                have z1 : w7.drew.cell? ⟨WB, 1, none⟩ = some (.int .i64 R0) := y1
                have z5 : w7.drew.cell? ⟨WB, 5, none⟩ = some (.int .i64 L0) := y5
                go_quiet (fail)
                go_wp2
                go_meet
                exact ⟨x, n1, n2, asked, least, false, false, 0, 0, 0, .int .i64 0, .int .i64 0, .slice none 0 0, rfl, rfl, rfl, HU, hid Tl.same, hid (K7.out.drewN _)⟩
        have e1 : (o.k == 1) = false := by simpa using h1
        by_cases h2 : o.k = 2
        · have e2 : (o.k == 2) = true := by simpa using h2
          clear h2
          as_aux_lemma =>
            have J32 : Hid ((Tryd.prog.info? 32).map (·.size) = some o.opC.length) := hid info32L
            have EO : Hid (Value.agg o.opC.toArray = opV o.ok o.onm o.otx o.onn o.omm) := hid rfl
            have hN1 : (1 : Int) ≤ (N : Int) := by have := hN7.out; omega
            obtain ⟨p0, p1'⟩ := pickV_nonneg (c := o.who) hN1
            have PK : Hid (∀ W : World, Calls Tryd.prog 13 #[.int .i64 o.who, .int .i64 (N : Int)] W fun e w' => e = .returned (.int .i64 (pickV o.who (N : Int))) ∧ w' = W) := hid (fun W => pick_is o.who (N : Int) hso.out.who hN1)
            have AK : Hid (∀ W, All (pxL P x b m n1 n2 ++ (blkC AB [.bool false, .int .i64 0, .int .i64 0, .int .i64 0, .int .i64 0, .int .i64 0, .slice none 0 0] 48 :: (blkC WB DW 45 :: blkC OB OC 43 :: [blkC C0 CL 23, inC w]))) W → Calls Tryd.prog 12 #[.pointer (some ⟨P, 0, none⟩), .int .i64 (pickV o.who (N : Int)), .agg o.opC.toArray] W fun e w' => ∃ v f x' n2', e = .returned (.tuple #[v, .int .i64 f]) ∧ All (pxL P x' b m n1 n2' ++ (blkC AB [.bool false, .int .i64 0, .int .i64 0, .int .i64 0, .int .i64 0, .int .i64 0, .slice none 0 0] 48 :: (blkC WB DW 45 :: blkC OB OC 43 :: [blkC C0 CL 23, inC w]))) w' ∧ ((f ≠ 0 ∧ x' = x ∧ n2' = n2) ∨ (f = 0 ∧ On x' N (i + 1) (asked + 1) x.seen b m n1 n2' ∧ ∀ ak nb nm l', Tl x x' false ak nb nm (asked + 1) l'))) := hid (fun W hW => by
              rw [EO.out]
              exact ask_any hW HT.out (by simp) hO.out (by omega) o.ok o.onm o.otx o.onn o.omm _ p0 p1')
            have SB : Hid (∀ W ds, All ds W → blkC OB OC 43 ∈ ds → W.cell? ⟨OB, 3, none⟩ = some (.int .i64 o.who) ∧ W.rangeAt OB 8 o.opC) := hid (fun W ds hW hm => ⟨(SR2.out _ (hW.blk hm)).2.2.2.1, (SR2.out _ (hW.blk hm)).1⟩)
            have SB2 : Hid (∀ W y p q, All (pxL P y b m p q ++ (blkC AB [.bool false, .int .i64 0, .int .i64 0, .int .i64 0, .int .i64 0, .int .i64 0, .slice none 0 0] 48 :: (blkC WB DW 45 :: blkC OB OC 43 :: [blkC C0 CL 23, inC w]))) W → W.cell? ⟨OB, 3, none⟩ = some (.int .i64 o.who) ∧ W.rangeAt OB 8 o.opC) := hid (fun W y p q hW => SB.out _ _ hW (by simp))
            have WS : Hid (∀ W y p q, All (pxL P y b m p q ++ (blkC AB [.bool false, .int .i64 0, .int .i64 0, .int .i64 0, .int .i64 0, .int .i64 0, .slice none 0 0] 48 :: (blkC WB DW 45 :: blkC OB OC 43 :: [blkC C0 CL 23, inC w]))) W → W.cell? ⟨WB, 3, none⟩ = some (.int .i64 x.seen)) := hid (fun W y p q hW => by
              have := hW.blk (g := WB) (vs := DW) (t := 45) (by simp)
              rw [hDW.out] at this
              rw [cell_at this]; rfl)
            have ab := hO.out.ask
            have q0 := hO.out.q0
            have q1 := hO.out.q1
            have wa : IntKind.i64.wrap (asked + 1) = asked + 1 := by rw [IntKind.wrap_i64]; omega
            have HU := hid hO.out.up
            clear EO ab q0 q1 p0 p1'
            generalize o.opC = OP at *
            generalize pickV o.who (N : Int) = WHO at *
            go_upto_region 24 with fail
            refine wp_region_held_drew (S := (fun W => W.cell? ⟨OB, 3, none⟩ = some (.int .i64 o.who) ∧ W.rangeAt OB 8 OP)) (by kernel_rfl) (SB.out _ _ K3.out.drew (by simp)) (fun hHeld => ?_)
            refine wpAnyH_take (i := 0) (oi := { dst := Option.some 113, op := Go.Op.move (Go.Operand.tmp 6), type := 26, pos := "law.go:328", after := #[], guard := Option.none }) (v := ?_) rfl (by kernel_rfl) (by kernel_rfl) (by kernel_rfl) (fun _ _ _ h => h) (Or.inl ⟨by rfl, ?_⟩) hHeld ?_
            rotate_left
            · intro W hSw
              (try dsimp only at hSw)
              go_simp
              (try with_reducible rfl)
            (try simp only [Act.put, List.setIfInBounds_toArray, List.set_cons_zero, List.set_cons_succ])
            refine wpAnyH_take (i := 1) (oi := { dst := Option.some 114, op := Go.Op.fieldAddr 43 (Go.Operand.tmp 14) 3, type := 0, pos := "law.go:328", after := #[], guard := Option.none }) (v := ?_) rfl (by kernel_rfl) (by kernel_rfl) (by kernel_rfl) (fun _ _ _ h => h) (Or.inl ⟨by rfl, ?_⟩) hHeld ?_
            rotate_left
            · intro W hSw
              (try dsimp only at hSw)
              go_simp
              (try with_reducible rfl)
            (try simp only [Act.put, List.setIfInBounds_toArray, List.set_cons_zero, List.set_cons_succ])
            refine wpAnyH_take (i := 2) (oi := { dst := Option.some 115, op := Go.Op.load 3 (Go.Operand.tmp 114), type := 3, pos := "law.go:328", after := #[{ on := 1, ground := Go.Ground.data }], guard := Option.none }) (v := ?_) rfl (by kernel_rfl) (by kernel_rfl) (by kernel_rfl) (fun _ _ _ h => h) (Or.inl ⟨by rfl, ?_⟩) hHeld ?_
            rotate_left
            · intro W hSw
              (try dsimp only at hSw)
              go_simp
              (try with_reducible rfl)
            (try simp only [Act.put, List.setIfInBounds_toArray, List.set_cons_zero, List.set_cons_succ])
            refine wpAnyH_take (i := 3) (oi := { dst := Option.some 116, op := Go.Op.move (Go.Operand.tmp 8), type := 3, pos := "law.go:328", after := #[], guard := Option.none }) (v := ?_) rfl (by kernel_rfl) (by kernel_rfl) (by kernel_rfl) (fun _ _ _ h => h) (Or.inl ⟨by rfl, ?_⟩) hHeld ?_
            rotate_left
            · intro W hSw
              (try dsimp only at hSw)
              go_simp
              (try with_reducible rfl)
            (try simp only [Act.put, List.setIfInBounds_toArray, List.set_cons_zero, List.set_cons_succ])
            refine wpAnyH_take (i := 5) (oi := { dst := Option.some 118, op := Go.Op.fieldAddr 43 (Go.Operand.tmp 14) 8, type := 0, pos := "law.go:328", after := #[], guard := Option.none }) (v := ?_) rfl (by kernel_rfl) (by kernel_rfl) (by kernel_rfl) (fun _ _ _ h => h) (Or.inl ⟨by rfl, ?_⟩) hHeld ?_
            rotate_left
            · intro W hSw
              (try dsimp only at hSw)
              go_simp
              (try with_reducible rfl)
            (try simp only [Act.put, List.setIfInBounds_toArray, List.set_cons_zero, List.set_cons_succ])
            refine wpAnyH_take (i := 6) (oi := { dst := Option.some 119, op := Go.Op.load 32 (Go.Operand.tmp 118), type := 32, pos := "law.go:328", after := #[{ on := 5, ground := Go.Ground.data }], guard := Option.none }) (v := .agg OP.toArray) rfl (by kernel_rfl) (by kernel_rfl) (by kernel_rfl) (fun _ _ _ h => h) (yieldsIf_load_mid (by rfl) 32 (.tmp 118) rfl OB 8 rfl OP _ (fun W hSw => hSw.2) Tryd.underlying32 rfl J32.out) hHeld ?_
            (try simp only [Act.put, List.setIfInBounds_toArray, List.set_cons_zero, List.set_cons_succ])
            refine wpAnyH_ready (rs := [4]) (by kernel_rfl) (by simp) ?_
            refine AllReadyH.cons (o := { dst := Option.some 117, op := Go.Op.call { callee := Go.Callee.value (Go.Operand.func 13), args := #[Go.Operand.tmp 115, Go.Operand.tmp 116], argTypes := #[3, 3] }, type := 3, pos := "law.go:328", after := #[{ on := 2, ground := Go.Ground.data }, { on := 3, ground := Go.Ground.data }], guard := Option.none }) rfl (fun K hK => ?_) AllReadyH.nil
            go_simp
            go_at_call 13; refine (PK.out _).mono ?_; rintro e w6 ⟨rfl, hw6⟩; subst w6
            refine hK.out _ _ (SB.out _ _ K3.out.drew (by simp)) (fun hHeld => ?_)
            clear hK K
            (try simp only [Act.put, List.setIfInBounds_toArray, List.set_cons_zero, List.set_cons_succ])
            refine wpAnyH_ready (rs := [7]) (by kernel_rfl) (by simp) ?_
            refine AllReadyH.cons (o := { dst := Option.some 120, op := Go.Op.call { callee := Go.Callee.value (Go.Operand.func 12), args := #[Go.Operand.tmp 113, Go.Operand.tmp 117, Go.Operand.tmp 119], argTypes := #[26, 3, 32] }, type := 50, pos := "law.go:328", after := #[{ on := 0, ground := Go.Ground.data }, { on := 4, ground := Go.Ground.data }, { on := 6, ground := Go.Ground.data }, { on := 4, ground := Go.Ground.chain }], guard := Option.none }) rfl (fun K hK => ?_) AllReadyH.nil
            go_simp
            go_at_call 12; refine (AK.out _ K3.out.drew).mono ?_; rintro e w7 ⟨v7, f7, x7, n7, rfl, A7, hcase⟩; have K7 := hid A7; clear A7; have HC7 := hid hcase; clear hcase
            refine hK.out _ _ (SB2.out _ _ _ _ K7.out) (fun hHeld => ?_)
            clear hK K
            (try simp only [Act.put, List.setIfInBounds_toArray, List.set_cons_zero, List.set_cons_succ])
            refine wpAnyH_take (i := 8) (oi := { dst := Option.some 112, op := Go.Op.move (Go.Operand.tmp 120), type := 50, pos := "law.go:328", after := #[{ on := 7, ground := Go.Ground.data }], guard := Option.none }) (v := ?_) rfl (by kernel_rfl) (by kernel_rfl) (by kernel_rfl) (fun _ _ _ h => h) (Or.inl ⟨by rfl, ?_⟩) hHeld ?_
            rotate_left
            · intro W hSw
              (try dsimp only at hSw)
              go_simp
              (try with_reducible rfl)
            (try simp only [Act.put, List.setIfInBounds_toArray, List.set_cons_zero, List.set_cons_succ])
            refine wpAnyH_take (i := 9) (oi := { dst := Option.some 121, op := Go.Op.extract (Go.Operand.tmp 112) 0, type := 49, pos := "law.go:328", after := #[{ on := 8, ground := Go.Ground.data }], guard := Option.none }) (v := ?_) rfl (by kernel_rfl) (by kernel_rfl) (by kernel_rfl) (fun _ _ _ h => h) (Or.inl ⟨by rfl, ?_⟩) hHeld ?_
            rotate_left
            · intro W hSw
              (try dsimp only at hSw)
              go_simp
              (try with_reducible rfl)
            (try simp only [Act.put, List.setIfInBounds_toArray, List.set_cons_zero, List.set_cons_succ])
            refine wpAnyH_take (i := 10) (oi := { dst := Option.some 122, op := Go.Op.extract (Go.Operand.tmp 112) 1, type := 27, pos := "law.go:328", after := #[{ on := 8, ground := Go.Ground.data }, { on := 11, ground := Go.Ground.gcOnly Go.Departure.lateStores }], guard := Option.none }) (v := ?_) rfl (by kernel_rfl) (by kernel_rfl) (by kernel_rfl) (fun _ _ _ h => h) (Or.inl ⟨by rfl, ?_⟩) hHeld ?_
            rotate_left
            · intro W hSw
              (try dsimp only at hSw)
              go_simp
              (try with_reducible rfl)
            (try simp only [Act.put, List.setIfInBounds_toArray, List.set_cons_zero, List.set_cons_succ])
            refine wpAnyH_take (i := 11) (oi := { dst := Option.some 21, op := Go.Op.assign (Go.Operand.tmp 121), type := 49, pos := "law.go:328", after := #[{ on := 9, ground := Go.Ground.data }, { on := 7, ground := Go.Ground.chain }, { on := 0, ground := Go.Ground.phase }, { on := 1, ground := Go.Ground.phase }, { on := 2, ground := Go.Ground.phase }, { on := 3, ground := Go.Ground.phase }, { on := 4, ground := Go.Ground.phase }, { on := 5, ground := Go.Ground.phase }, { on := 6, ground := Go.Ground.phase }, { on := 7, ground := Go.Ground.phase }, { on := 8, ground := Go.Ground.phase }, { on := 9, ground := Go.Ground.phase }, { on := 10, ground := Go.Ground.textOnly Go.Departure.lateStores }], guard := Option.none }) (v := ?_) rfl (by kernel_rfl) (by kernel_rfl) (by kernel_rfl) (fun _ _ _ h => h) (Or.inl ⟨by rfl, ?_⟩) hHeld ?_
            rotate_left
            · intro W hSw
              (try dsimp only at hSw)
              go_simp
              (try with_reducible rfl)
            (try simp only [Act.put, List.setIfInBounds_toArray, List.set_cons_zero, List.set_cons_succ])
            refine wpAnyH_take (i := 12) (oi := { dst := Option.some 22, op := Go.Op.assign (Go.Operand.tmp 122), type := 27, pos := "law.go:328", after := #[{ on := 10, ground := Go.Ground.data }, { on := 11, ground := Go.Ground.chain }, { on := 0, ground := Go.Ground.phase }, { on := 1, ground := Go.Ground.phase }, { on := 2, ground := Go.Ground.phase }, { on := 3, ground := Go.Ground.phase }, { on := 4, ground := Go.Ground.phase }, { on := 5, ground := Go.Ground.phase }, { on := 6, ground := Go.Ground.phase }, { on := 7, ground := Go.Ground.phase }, { on := 8, ground := Go.Ground.phase }, { on := 9, ground := Go.Ground.phase }, { on := 10, ground := Go.Ground.phase }, { on := 11, ground := Go.Ground.phase }], guard := Option.none }) (v := ?_) rfl (by kernel_rfl) (by kernel_rfl) (by kernel_rfl) (fun _ _ _ h => h) (Or.inl ⟨by rfl, ?_⟩) hHeld ?_
            rotate_left
            · intro W hSw
              (try dsimp only at hSw)
              go_simp
              (try with_reducible rfl)
            (try simp only [Act.put, List.setIfInBounds_toArray, List.set_cons_zero, List.set_cons_succ])
            refine wpAnyH_done (by kernel_rfl) ?_ _
            clear hHeld
            rcases HC7.out with ⟨hf, ex, en⟩ | ⟨rfl, ho2, ht2⟩
            · have hf' : (f7 == 0) = false := by simpa using hf
              have EX := hid ex
              have EN := hid en
              clear hf HC7 ex en
              go_wp2
              go_meet
              exact ⟨x7, n1, n7, asked, least, false, false, 0, 0, 0, .int .i64 0, .int .i64 0, .slice none 0 0, rfl, rfl, rfl, hid (by rw [EX.out, EN.out]; exact HU.out), hid (by rw [EX.out]; exact Tl.same), K7⟩
            · have ys := WS.out _ _ _ _ K7.out
              have HO2 := hid ho2
              have HT2 := hid ht2
              clear HC7 ho2 ht2
              go_wp2
              go_meet
              exact ⟨x7, n1, n7, asked + 1, x.seen, false, false, 0, 0, 0, .int .i64 0, .int .i64 0, .slice none 0 0, by first | rfl | (rw [wa]), rfl, rfl, HO2, hid (HT2.out _ _ _ _), K7⟩
        have e2 : (o.k == 2) = false := by simpa using h2
        by_cases h4 : o.k = 4
        · have e4 : (o.k == 4) = true := by simpa using h4
          clear h4
          as_aux_lemma =>
            have TC := hid (tick_any K3.out hO.out.rl hO.out.ql hO.out.b1.1 hO.out.b1.2 hO.out.bm.2.2 hO.out.b2.1 hO.out.b2.2 N hO.out.n (by have := hO.out.N7; omega) hO.out.w0 hO.out.w7 hO.out.a0 (by have := hO.out.a1; omega))
            go_wp2_with (go_at_call 14; refine TC.out.mono ?_; rintro e w6 ⟨v6, rfl, A6⟩; have K6 := hid A6.tail; clear A6)
            go_meet
            exact ⟨_, _, _, asked, least, false, false, 0, 0, 0, .int .i64 0, .int .i64 0, .slice none 0 0, rfl, rfl, rfl, hid hO.out.ticks.1, hid (hO.out.ticks.2 _ _ _), K6⟩
        have e4 : (o.k == 4) = false := by simpa using h4
        by_cases h3 : o.k = 3
        · have e3 : (o.k == 3) = true := by simpa using h3
          clear h3
          as_aux_lemma =>
            have hN3 : x.n = 3 ∨ x.n = 5 ∨ x.n = 7 := by have := hO.out.n; have := hO.out.N7; omega
            obtain ⟨li, le, ls, lx, hml, hli⟩ := hso.out.ml
            have SC := hid (step_any K3.out (w0 := w) (by simp) o.m _ (copR_of hml.it hli) (check_of x.n hN3 o.m HT.out HF.out hml))
            have RM := hid (SR2.out _ (K3.out.blk (by simp))).2.1
            have J41 : Hid ((Tryd.prog.info? 41).map (·.size) = some o.m.cells.length) := hid (by have := info41 o.m; simpa using this)
            clear hml hli
            generalize o.m.cells = MC at *
            go_wp2_with (first | (refine wpList_load_mid rfl 41 _ rfl OB 13 rfl MC _ RM.out Tryd.underlying41 rfl J41.out ?_) | (go_at_call 15; refine SC.out.mono ?_; rintro e w6 ⟨AC, is, x', n1', n2', rfl, hs, A6⟩; obtain ⟨hO', ak, nb, nm, wh, c4, c5, c6, hac, htl, hone⟩ := hO.out.step hs; have I48 : Hid ((Tryd.prog.info? 48).map (·.size) = some AC.toArray.size) := hid (by rw [List.size_toArray, hac.len]; exact info48); have Z48 : Hid (7 = AC.toArray.size) := hid (by rw [List.size_toArray, hac.len]); have O48 := hid hone; have HAC := hid hac; have HTL := hid htl; have HO := hid hO'; have HB6 := hid (A6.blk (g := AB) (vs := [.bool false, .int .i64 0, .int .i64 0, .int .i64 0, .int .i64 0, .int .i64 0, .slice none 0 0]) (t := 48) (by simp)); have K6 := hid (ab_set A6 AC); clear A6 hs hac htl hone hO') | (refine wpList_store_row rfl 48 _ _ rfl AB AC.toArray rfl rfl 48 _ HB6.out I48.out Z48.out O48.out ?_))
            go_meet
            exact ⟨x', n1', n2', asked, least, is, ak, nb, nm, wh, c4, c5, c6, rfl, rfl, rfl, HO, HTL, hid (by rw [← HAC.out.e]; exact K6.out)⟩
        have e3 : (o.k == 3) = false := by simpa using h3
        by_cases h8 : o.k = 8
        · have e8 : (o.k == 8) = true := by simpa using h8
          clear h8
          as_aux_lemma =>
            have hN1 : (1 : Int) ≤ (N : Int) := by have := hN7.out; omega
            obtain ⟨f0, f1⟩ := pickV_nonneg (c := o.fr) hN1
            obtain ⟨v0, v1⟩ := pickV_nonneg (c := o.vw) (n := 1099511627776) (by decide)
            obtain ⟨u0, u1⟩ := pickV_nonneg (c := o.nu) (n := 1099511627776) (by decide)
            have PK1 : Hid (∀ W : World, Calls Tryd.prog 13 #[.int .i64 o.fr, .int .i64 (N : Int)] W fun e w' => e = .returned (.int .i64 (pickV o.fr (N : Int))) ∧ w' = W) := hid (fun W => pick_is o.fr (N : Int) hso.out.fr hN1)
            have PK2 : Hid (∀ W : World, Calls Tryd.prog 13 #[.int .i64 o.vw, .int .i64 1099511627776] W fun e w' => e = .returned (.int .i64 (pickV o.vw 1099511627776)) ∧ w' = W) := hid (fun W => pick_is o.vw 1099511627776 hso.out.vw (by decide))
            have PK3 : Hid (∀ W : World, Calls Tryd.prog 13 #[.int .i64 o.nu, .int .i64 1099511627776] W fun e w' => e = .returned (.int .i64 (pickV o.nu 1099511627776)) ∧ w' = W) := hid (fun W => pick_is o.nu 1099511627776 hso.out.nu (by decide))
            generalize pickV o.fr (N : Int) = F1 at *
            generalize pickV o.vw 1099511627776 = V1 at *
            generalize pickV o.nu 1099511627776 = U1 at *
            obtain ⟨R0, hR0⟩ : ∃ R0, Hid (R0 = x.rqO) := ⟨_, hid rfl⟩
            obtain ⟨RC, hRC⟩ : ∃ RC, Hid (RC = (rpR F1 V1 U1 R0).cells) := ⟨_, hid rfl⟩
            have HRC := hRC
            have RQ : Hid (x.rqO ≤ 1099511627776) := hid (by
              have r1 := hO.out.r1
              cases hw : x.rq.wts with
              | true => rw [(hO.out.rqO0.1 hw).1]; omega
              | false => rw [hO.out.rqO0.2 hw]; decide)
            have I41R : Hid ((Tryd.prog.info? 41).map (·.size) = some RC.toArray.size) := hid (by rw [hRC.out]; exact info41 _)
            have O41R : Hid (RC.toArray.all (·.oneCell') = true) := hid (by rw [hRC.out]; simp [rpR, Ms.cells, Value.oneCell'])
            have Z41R : Hid (23 = RC.toArray.size) := hid (by rw [hRC.out]; rfl)
            have SW : Hid (∀ W ab, All (pxL P x b m n1 n2 ++ (blkC AB ab 48 :: (blkC WB DW 45 :: blkC OB OC 43 :: [blkC C0 CL 23, inC w]))) W → (fun W => W.cell? ⟨OB, 5, none⟩ = some (.int .i64 o.fr) ∧ W.cell? ⟨OB, 6, none⟩ = some (.int .i64 o.vw) ∧ W.cell? ⟨OB, 7, none⟩ = some (.int .i64 o.nu) ∧ W.cell? ⟨WB, 1, none⟩ = some (.int .i64 R0)) W) := hid (fun W ab hW => by
              have s := SR2.out _ (hW.blk (g := OB) (vs := OC) (t := 43) (by simp))
              have d := hW.blk (g := WB) (vs := DW) (t := 45) (by simp)
              rw [hDW.out] at d
              exact ⟨s.2.2.2.2.1, s.2.2.2.2.2.1, s.2.2.2.2.2.2, by rw [cell_at d, hR0.out]; rfl⟩)
            have AM : Hid (∀ W, All (pxL P x b m n1 n2 ++ (blkC AB [.bool false, .int .i64 0, .int .i64 0, .int .i64 0, .int .i64 0, .int .i64 0, .slice none 0 0] 48 :: (blkC WB DW 45 :: blkC OB OC 43 :: [blkC C0 CL 23, inC w]))) W → All (blkC W.heap.size zM.cells 41 :: (pxL P x b m n1 n2 ++ (blkC AB [.bool false, .int .i64 0, .int .i64 0, .int .i64 0, .int .i64 0, .int .i64 0, .slice none 0 0] 48 :: (blkC WB DW 45 :: blkC OB OC 43 :: [blkC C0 CL 23, inC w])))) (W.alloc (.cells #[.int .i64 0, .int .i64 0, .int .i64 0, .int .i64 0, .int .i64 0, .int .i64 0, .int .i64 0, .int .i64 0, .int .i64 0, .bool false, .int .i64 0, .string ⟨#[]⟩, .string ⟨#[]⟩, .int .i64 0, .int .i64 0, .int .i64 0, .int .i64 0, .slice none 0 0, .slice none 0 0, .int .i64 0, .int .i64 0, .slice none 0 0, .slice none 0 0] 41))) := hid (fun W hW => hW.addBlk zM.cells 41)
            have KD := hid K3.out.drew
            have hN3 : (N : Int) = 3 ∨ (N : Int) = 5 ∨ (N : Int) = 7 := by have := hN7.out; omega
            have RD : Hid (∀ W ds, inC w ∈ ds → All ds W → Calls Tryd.prog 16 #[.int .i64 (N : Int), .agg RC.toArray] W fun e w' => ∃ r, e = .returned (.int .i64 r) ∧ All ds w') := hid (fun W ds hi' hW => by
              rw [hRC.out]
              exact (rpR_doc hN3 (HT.out.below (hW.into hi'))).mono fun e w' ⟨r, he, hb⟩ => ⟨r, he, hW.later hb⟩)
            go_upto_region 33 with fail
            go_cut [23] (fun p wx => ∃ MB, p = .pointer (some ⟨MB, 0, none⟩) ∧ Hid (All (blkC MB RC 41 :: (pxL P x b m n1 n2 ++ (blkC AB [.bool false, .int .i64 0, .int .i64 0, .int .i64 0, .int .i64 0, .int .i64 0, .slice none 0 0] 48 :: (blkC WB DW 45 :: blkC OB OC 43 :: [blkC C0 CL 23, inC w])))) wx))
            case first =>
              as_aux_lemma =>
                refine wp_region_held_drew (S := (fun W => W.cell? ⟨OB, 5, none⟩ = some (.int .i64 o.fr) ∧ W.cell? ⟨OB, 6, none⟩ = some (.int .i64 o.vw) ∧ W.cell? ⟨OB, 7, none⟩ = some (.int .i64 o.nu) ∧ W.cell? ⟨WB, 1, none⟩ = some (.int .i64 R0))) (by kernel_rfl) (SW.out _ _ KD.out) (fun hHeld => ?_)
                generalize w5.drew = wd at *
                refine wpAnyH_take (i := 0) (oi := { dst := Option.some 144, op := Go.Op.fieldAddr 43 (Go.Operand.tmp 14) 5, type := 0, pos := "law.go:338", after := #[], guard := Option.none }) (v := ?_) rfl (by kernel_rfl) (by kernel_rfl) (by kernel_rfl) (fun _ _ _ h => h) (Or.inl ⟨by rfl, ?_⟩) hHeld ?_
                rotate_left
                · intro W hSw
                  (try dsimp only at hSw)
                  go_simp
                  (try with_reducible rfl)
                (try simp only [Act.put, List.setIfInBounds_toArray, List.set_cons_zero, List.set_cons_succ])
                refine wpAnyH_take (i := 1) (oi := { dst := Option.some 145, op := Go.Op.load 3 (Go.Operand.tmp 144), type := 3, pos := "law.go:338", after := #[{ on := 0, ground := Go.Ground.data }], guard := Option.none }) (v := ?_) rfl (by kernel_rfl) (by kernel_rfl) (by kernel_rfl) (fun _ _ _ h => h) (Or.inl ⟨by rfl, ?_⟩) hHeld ?_
                rotate_left
                · intro W hSw
                  (try dsimp only at hSw)
                  go_simp
                  (try with_reducible rfl)
                (try simp only [Act.put, List.setIfInBounds_toArray, List.set_cons_zero, List.set_cons_succ])
                refine wpAnyH_take (i := 2) (oi := { dst := Option.some 146, op := Go.Op.move (Go.Operand.tmp 8), type := 3, pos := "law.go:338", after := #[], guard := Option.none }) (v := ?_) rfl (by kernel_rfl) (by kernel_rfl) (by kernel_rfl) (fun _ _ _ h => h) (Or.inl ⟨by rfl, ?_⟩) hHeld ?_
                rotate_left
                · intro W hSw
                  (try dsimp only at hSw)
                  go_simp
                  (try with_reducible rfl)
                (try simp only [Act.put, List.setIfInBounds_toArray, List.set_cons_zero, List.set_cons_succ])
                refine wpAnyH_take (i := 4) (oi := { dst := Option.some 148, op := Go.Op.fieldAddr 43 (Go.Operand.tmp 14) 6, type := 0, pos := "law.go:338", after := #[], guard := Option.none }) (v := ?_) rfl (by kernel_rfl) (by kernel_rfl) (by kernel_rfl) (fun _ _ _ h => h) (Or.inl ⟨by rfl, ?_⟩) hHeld ?_
                rotate_left
                · intro W hSw
                  (try dsimp only at hSw)
                  go_simp
                  (try with_reducible rfl)
                (try simp only [Act.put, List.setIfInBounds_toArray, List.set_cons_zero, List.set_cons_succ])
                refine wpAnyH_take (i := 5) (oi := { dst := Option.some 149, op := Go.Op.load 3 (Go.Operand.tmp 148), type := 3, pos := "law.go:338", after := #[{ on := 4, ground := Go.Ground.data }], guard := Option.none }) (v := ?_) rfl (by kernel_rfl) (by kernel_rfl) (by kernel_rfl) (fun _ _ _ h => h) (Or.inl ⟨by rfl, ?_⟩) hHeld ?_
                rotate_left
                · intro W hSw
                  (try dsimp only at hSw)
                  go_simp
                  (try with_reducible rfl)
                (try simp only [Act.put, List.setIfInBounds_toArray, List.set_cons_zero, List.set_cons_succ])
                refine wpAnyH_take (i := 7) (oi := { dst := Option.some 151, op := Go.Op.fieldAddr 45 (Go.Operand.tmp 15) 1, type := 0, pos := "law.go:338", after := #[], guard := Option.none }) (v := ?_) rfl (by kernel_rfl) (by kernel_rfl) (by kernel_rfl) (fun _ _ _ h => h) (Or.inl ⟨by rfl, ?_⟩) hHeld ?_
                rotate_left
                · intro W hSw
                  (try dsimp only at hSw)
                  go_simp
                  (try with_reducible rfl)
                (try simp only [Act.put, List.setIfInBounds_toArray, List.set_cons_zero, List.set_cons_succ])
                refine wpAnyH_take (i := 8) (oi := { dst := Option.some 152, op := Go.Op.load 3 (Go.Operand.tmp 151), type := 3, pos := "law.go:338", after := #[{ on := 7, ground := Go.Ground.data }], guard := Option.none }) (v := ?_) rfl (by kernel_rfl) (by kernel_rfl) (by kernel_rfl) (fun _ _ _ h => h) (Or.inl ⟨by rfl, ?_⟩) hHeld ?_
                rotate_left
                · intro W hSw
                  (try dsimp only at hSw)
                  go_simp
                  (try with_reducible rfl)
                (try simp only [Act.put, List.setIfInBounds_toArray, List.set_cons_zero, List.set_cons_succ])
                refine wpAnyH_take (i := 9) (oi := { dst := Option.some 153, op := Go.Op.fieldAddr 43 (Go.Operand.tmp 14) 7, type := 0, pos := "law.go:338", after := #[], guard := Option.none }) (v := ?_) rfl (by kernel_rfl) (by kernel_rfl) (by kernel_rfl) (fun _ _ _ h => h) (Or.inl ⟨by rfl, ?_⟩) hHeld ?_
                rotate_left
                · intro W hSw
                  (try dsimp only at hSw)
                  go_simp
                  (try with_reducible rfl)
                (try simp only [Act.put, List.setIfInBounds_toArray, List.set_cons_zero, List.set_cons_succ])
                refine wpAnyH_take (i := 10) (oi := { dst := Option.some 154, op := Go.Op.load 3 (Go.Operand.tmp 153), type := 3, pos := "law.go:338", after := #[{ on := 9, ground := Go.Ground.data }], guard := Option.none }) (v := ?_) rfl (by kernel_rfl) (by kernel_rfl) (by kernel_rfl) (fun _ _ _ h => h) (Or.inl ⟨by rfl, ?_⟩) hHeld ?_
                rotate_left
                · intro W hSw
                  (try dsimp only at hSw)
                  go_simp
                  (try with_reducible rfl)
                (try simp only [Act.put, List.setIfInBounds_toArray, List.set_cons_zero, List.set_cons_succ])
                refine wpAnyH_ready (rs := [3, 13]) (by kernel_rfl) (by simp) ?_
                refine AllReadyH.cons (o := { dst := Option.some 147, op := Go.Op.call { callee := Go.Callee.value (Go.Operand.func 13), args := #[Go.Operand.tmp 145, Go.Operand.tmp 146], argTypes := #[3, 3] }, type := 3, pos := "law.go:338", after := #[{ on := 1, ground := Go.Ground.data }, { on := 2, ground := Go.Ground.data }], guard := Option.none }) rfl (fun K hK => ?_) (AllReadyH.cons (o := { dst := Option.some 23, op := Go.Op.alloc 41, type := 0, pos := "law.go:338", after := #[], guard := Option.none }) rfl (fun K hK => ?_) AllReadyH.nil)
                · go_simp
                  go_at_call 13
                  refine (PK1.out _).mono ?_
                  rintro e wz ⟨rfl, hwz⟩
                  subst wz
                  refine hK.out _ _ (SW.out _ _ KD.out) (fun hHeld => ?_)
                  clear hK K
                  (try simp only [Act.put, List.setIfInBounds_toArray, List.set_cons_zero, List.set_cons_succ])
                  refine wpAnyH_ready (rs := [6, 13]) (by kernel_rfl) (by simp) ?_
                  refine AllReadyH.cons (o := { dst := Option.some 150, op := Go.Op.call { callee := Go.Callee.value (Go.Operand.func 13), args := #[Go.Operand.tmp 149, Go.Operand.const (Go.Value.int Go.IntKind.i64 1099511627776)], argTypes := #[3, 3] }, type := 3, pos := "law.go:338", after := #[{ on := 5, ground := Go.Ground.data }, { on := 3, ground := Go.Ground.chain }], guard := Option.none }) rfl (fun K hK => ?_) (AllReadyH.cons (o := { dst := Option.some 23, op := Go.Op.alloc 41, type := 0, pos := "law.go:338", after := #[], guard := Option.none }) rfl (fun K hK => ?_) AllReadyH.nil)
                  · go_simp
                    go_at_call 13
                    refine (PK2.out _).mono ?_
                    rintro e wz ⟨rfl, hwz⟩
                    subst wz
                    refine hK.out _ _ (SW.out _ _ KD.out) (fun hHeld => ?_)
                    clear hK K
                    (try simp only [Act.put, List.setIfInBounds_toArray, List.set_cons_zero, List.set_cons_succ])
                    refine wpAnyH_ready (rs := [11, 13]) (by kernel_rfl) (by simp) ?_
                    refine AllReadyH.cons (o := { dst := Option.some 155, op := Go.Op.call { callee := Go.Callee.value (Go.Operand.func 13), args := #[Go.Operand.tmp 154, Go.Operand.const (Go.Value.int Go.IntKind.i64 1099511627776)], argTypes := #[3, 3] }, type := 3, pos := "law.go:338", after := #[{ on := 10, ground := Go.Ground.data }, { on := 6, ground := Go.Ground.chain }], guard := Option.none }) rfl (fun K hK => ?_) (AllReadyH.cons (o := { dst := Option.some 23, op := Go.Op.alloc 41, type := 0, pos := "law.go:338", after := #[], guard := Option.none }) rfl (fun K hK => ?_) AllReadyH.nil)
                    · go_simp
                      go_at_call 13
                      refine (PK3.out _).mono ?_
                      rintro e wz ⟨rfl, hwz⟩
                      subst wz
                      refine hK.out _ _ (SW.out _ _ KD.out) (fun hHeld => ?_)
                      clear hK K
                      (try simp only [Act.put, List.setIfInBounds_toArray, List.set_cons_zero, List.set_cons_succ])
                      refine wpAnyH_take (i := 12) (oi := { dst := Option.some 156, op := Go.Op.build 41 #[(0, Go.Operand.const (Go.Value.int Go.IntKind.i64 2)), (1, Go.Operand.tmp 147), (2, Go.Operand.const (Go.Value.int Go.IntKind.i64 0)), (3, Go.Operand.tmp 150), (8, Go.Operand.tmp 152), (4, Go.Operand.tmp 155)], type := 41, pos := "law.go:338", after := #[{ on := 3, ground := Go.Ground.data }, { on := 6, ground := Go.Ground.data }, { on := 8, ground := Go.Ground.data }, { on := 11, ground := Go.Ground.data }], guard := Option.none }) (v := .agg RC.toArray) rfl (by kernel_rfl) (by kernel_rfl) (by kernel_rfl) (fun _ _ _ h => h) (yieldsIf_build (by rfl) 41 _ rfl RC.toArray (built41 HRC.out (by rfl) (by rfl) (by rfl) (by rfl))) hHeld ?_
                      (try simp only [Act.put, List.setIfInBounds_toArray, List.set_cons_zero, List.set_cons_succ])
                      refine wpAnyH_ready (rs := [13]) (by kernel_rfl) (by simp) ?_
                      refine AllReadyH.cons (o := { dst := Option.some 23, op := Go.Op.alloc 41, type := 0, pos := "law.go:338", after := #[], guard := Option.none }) rfl (fun K hK => ?_) AllReadyH.nil
                      go_simp
                      have KM := hid (AM.out _ KD.out)
                      generalize wd.heap.size = MB at *
                      generalize wd.alloc (.cells #[.int .i64 0, .int .i64 0, .int .i64 0, .int .i64 0, .int .i64 0, .int .i64 0, .int .i64 0, .int .i64 0, .int .i64 0, .bool false, .int .i64 0, .string ⟨#[]⟩, .string ⟨#[]⟩, .int .i64 0, .int .i64 0, .int .i64 0, .int .i64 0, .slice none 0 0, .slice none 0 0, .int .i64 0, .int .i64 0, .slice none 0 0, .slice none 0 0] 41) = we at *
                      refine hK.out _ _ (SW.out _ _ KM.out.tail) (fun hHeld => ?_)
                      clear hK K
                      (try simp only [Act.put, List.setIfInBounds_toArray, List.set_cons_zero, List.set_cons_succ])
                      as_aux_lemma =>
                        refine wpAnyH_ready (rs := [14]) (by kernel_rfl) (by simp) ?_
                        refine AllReadyH.cons (o := { dst := Option.none, op := Go.Op.store 41 (Go.Operand.tmp 23) (Go.Operand.tmp 156), type := 0, pos := "law.go:338", after := #[{ on := 13, ground := Go.Ground.data }, { on := 12, ground := Go.Ground.data }, { on := 11, ground := Go.Ground.chain }, { on := 0, ground := Go.Ground.phase }, { on := 1, ground := Go.Ground.phase }, { on := 2, ground := Go.Ground.phase }, { on := 3, ground := Go.Ground.phase }, { on := 4, ground := Go.Ground.phase }, { on := 5, ground := Go.Ground.phase }, { on := 6, ground := Go.Ground.phase }, { on := 7, ground := Go.Ground.phase }, { on := 8, ground := Go.Ground.phase }, { on := 9, ground := Go.Ground.phase }, { on := 10, ground := Go.Ground.phase }, { on := 11, ground := Go.Ground.phase }, { on := 12, ground := Go.Ground.phase }, { on := 13, ground := Go.Ground.phase }], guard := Option.none }) rfl (fun K hK => ?_) AllReadyH.nil
                        rw [if_pos (by rfl)]
                        have HM7 := hid KM.out.1.2.1
                        have K9 := hid (KM.out.setRow (vs' := RC))
                        clear KM
                        refine wp_store_row 41 _ _ rfl _ RC.toArray rfl rfl 41 _ HM7.out I41R.out Z41R.out O41R.out ?_
                        clear HM7
                        generalize World.setRow we MB RC.toArray = wf at *
                        refine hK.out _ _ (SW.out _ _ K9.out.tail) (fun hHeld => ?_)
                        clear hK K
                        (try simp only [Act.put])
                        refine wpAnyH_done (by kernel_rfl) ?_ _
                        clear hHeld
                        go_wp2
                        go_meet
                        exact ⟨MB, rfl, K9⟩
                    · go_simp
                      have KM := hid (AM.out _ KD.out)
                      generalize wd.heap.size = MB at *
                      generalize wd.alloc (.cells #[.int .i64 0, .int .i64 0, .int .i64 0, .int .i64 0, .int .i64 0, .int .i64 0, .int .i64 0, .int .i64 0, .int .i64 0, .bool false, .int .i64 0, .string ⟨#[]⟩, .string ⟨#[]⟩, .int .i64 0, .int .i64 0, .int .i64 0, .int .i64 0, .slice none 0 0, .slice none 0 0, .int .i64 0, .int .i64 0, .slice none 0 0, .slice none 0 0] 41) = we at *
                      refine hK.out _ _ (SW.out _ _ KM.out.tail) (fun hHeld => ?_)
                      clear hK K
                      (try simp only [Act.put, List.setIfInBounds_toArray, List.set_cons_zero, List.set_cons_succ])
                      refine wpAnyH_ready (rs := [11]) (by kernel_rfl) (by simp) ?_
                      refine AllReadyH.cons (o := { dst := Option.some 155, op := Go.Op.call { callee := Go.Callee.value (Go.Operand.func 13), args := #[Go.Operand.tmp 154, Go.Operand.const (Go.Value.int Go.IntKind.i64 1099511627776)], argTypes := #[3, 3] }, type := 3, pos := "law.go:338", after := #[{ on := 10, ground := Go.Ground.data }, { on := 6, ground := Go.Ground.chain }], guard := Option.none }) rfl (fun K hK => ?_) AllReadyH.nil
                      go_simp
                      go_at_call 13
                      refine (PK3.out _).mono ?_
                      rintro e wz ⟨rfl, hwz⟩
                      subst wz
                      refine hK.out _ _ (SW.out _ _ KM.out.tail) (fun hHeld => ?_)
                      clear hK K
                      (try simp only [Act.put, List.setIfInBounds_toArray, List.set_cons_zero, List.set_cons_succ])
                      as_aux_lemma =>
                        refine wpAnyH_take (i := 12) (oi := { dst := Option.some 156, op := Go.Op.build 41 #[(0, Go.Operand.const (Go.Value.int Go.IntKind.i64 2)), (1, Go.Operand.tmp 147), (2, Go.Operand.const (Go.Value.int Go.IntKind.i64 0)), (3, Go.Operand.tmp 150), (8, Go.Operand.tmp 152), (4, Go.Operand.tmp 155)], type := 41, pos := "law.go:338", after := #[{ on := 3, ground := Go.Ground.data }, { on := 6, ground := Go.Ground.data }, { on := 8, ground := Go.Ground.data }, { on := 11, ground := Go.Ground.data }], guard := Option.none }) (v := .agg RC.toArray) rfl (by kernel_rfl) (by kernel_rfl) (by kernel_rfl) (fun _ _ _ h => h) (yieldsIf_build (by rfl) 41 _ rfl RC.toArray (built41 HRC.out (by rfl) (by rfl) (by rfl) (by rfl))) hHeld ?_
                        (try simp only [Act.put, List.setIfInBounds_toArray, List.set_cons_zero, List.set_cons_succ])
                        refine wpAnyH_ready (rs := [14]) (by kernel_rfl) (by simp) ?_
                        refine AllReadyH.cons (o := { dst := Option.none, op := Go.Op.store 41 (Go.Operand.tmp 23) (Go.Operand.tmp 156), type := 0, pos := "law.go:338", after := #[{ on := 13, ground := Go.Ground.data }, { on := 12, ground := Go.Ground.data }, { on := 11, ground := Go.Ground.chain }, { on := 0, ground := Go.Ground.phase }, { on := 1, ground := Go.Ground.phase }, { on := 2, ground := Go.Ground.phase }, { on := 3, ground := Go.Ground.phase }, { on := 4, ground := Go.Ground.phase }, { on := 5, ground := Go.Ground.phase }, { on := 6, ground := Go.Ground.phase }, { on := 7, ground := Go.Ground.phase }, { on := 8, ground := Go.Ground.phase }, { on := 9, ground := Go.Ground.phase }, { on := 10, ground := Go.Ground.phase }, { on := 11, ground := Go.Ground.phase }, { on := 12, ground := Go.Ground.phase }, { on := 13, ground := Go.Ground.phase }], guard := Option.none }) rfl (fun K hK => ?_) AllReadyH.nil
                        rw [if_pos (by rfl)]
                        have HM7 := hid KM.out.1.2.1
                        have K9 := hid (KM.out.setRow (vs' := RC))
                        clear KM
                        refine wp_store_row 41 _ _ rfl _ RC.toArray rfl rfl 41 _ HM7.out I41R.out Z41R.out O41R.out ?_
                        clear HM7
                        generalize World.setRow we MB RC.toArray = wf at *
                        refine hK.out _ _ (SW.out _ _ K9.out.tail) (fun hHeld => ?_)
                        clear hK K
                        (try simp only [Act.put])
                        refine wpAnyH_done (by kernel_rfl) ?_ _
                        clear hHeld
                        go_wp2
                        go_meet
                        exact ⟨MB, rfl, K9⟩
                  · go_simp
                    have KM := hid (AM.out _ KD.out)
                    generalize wd.heap.size = MB at *
                    generalize wd.alloc (.cells #[.int .i64 0, .int .i64 0, .int .i64 0, .int .i64 0, .int .i64 0, .int .i64 0, .int .i64 0, .int .i64 0, .int .i64 0, .bool false, .int .i64 0, .string ⟨#[]⟩, .string ⟨#[]⟩, .int .i64 0, .int .i64 0, .int .i64 0, .int .i64 0, .slice none 0 0, .slice none 0 0, .int .i64 0, .int .i64 0, .slice none 0 0, .slice none 0 0] 41) = we at *
                    refine hK.out _ _ (SW.out _ _ KM.out.tail) (fun hHeld => ?_)
                    clear hK K
                    (try simp only [Act.put, List.setIfInBounds_toArray, List.set_cons_zero, List.set_cons_succ])
                    refine wpAnyH_ready (rs := [6]) (by kernel_rfl) (by simp) ?_
                    refine AllReadyH.cons (o := { dst := Option.some 150, op := Go.Op.call { callee := Go.Callee.value (Go.Operand.func 13), args := #[Go.Operand.tmp 149, Go.Operand.const (Go.Value.int Go.IntKind.i64 1099511627776)], argTypes := #[3, 3] }, type := 3, pos := "law.go:338", after := #[{ on := 5, ground := Go.Ground.data }, { on := 3, ground := Go.Ground.chain }], guard := Option.none }) rfl (fun K hK => ?_) AllReadyH.nil
                    go_simp
                    go_at_call 13
                    refine (PK2.out _).mono ?_
                    rintro e wz ⟨rfl, hwz⟩
                    subst wz
                    refine hK.out _ _ (SW.out _ _ KM.out.tail) (fun hHeld => ?_)
                    clear hK K
                    (try simp only [Act.put, List.setIfInBounds_toArray, List.set_cons_zero, List.set_cons_succ])
                    refine wpAnyH_ready (rs := [11]) (by kernel_rfl) (by simp) ?_
                    refine AllReadyH.cons (o := { dst := Option.some 155, op := Go.Op.call { callee := Go.Callee.value (Go.Operand.func 13), args := #[Go.Operand.tmp 154, Go.Operand.const (Go.Value.int Go.IntKind.i64 1099511627776)], argTypes := #[3, 3] }, type := 3, pos := "law.go:338", after := #[{ on := 10, ground := Go.Ground.data }, { on := 6, ground := Go.Ground.chain }], guard := Option.none }) rfl (fun K hK => ?_) AllReadyH.nil
                    go_simp
                    go_at_call 13
                    refine (PK3.out _).mono ?_
                    rintro e wz ⟨rfl, hwz⟩
                    subst wz
                    refine hK.out _ _ (SW.out _ _ KM.out.tail) (fun hHeld => ?_)
                    clear hK K
                    (try simp only [Act.put, List.setIfInBounds_toArray, List.set_cons_zero, List.set_cons_succ])
                    as_aux_lemma =>
                      refine wpAnyH_take (i := 12) (oi := { dst := Option.some 156, op := Go.Op.build 41 #[(0, Go.Operand.const (Go.Value.int Go.IntKind.i64 2)), (1, Go.Operand.tmp 147), (2, Go.Operand.const (Go.Value.int Go.IntKind.i64 0)), (3, Go.Operand.tmp 150), (8, Go.Operand.tmp 152), (4, Go.Operand.tmp 155)], type := 41, pos := "law.go:338", after := #[{ on := 3, ground := Go.Ground.data }, { on := 6, ground := Go.Ground.data }, { on := 8, ground := Go.Ground.data }, { on := 11, ground := Go.Ground.data }], guard := Option.none }) (v := .agg RC.toArray) rfl (by kernel_rfl) (by kernel_rfl) (by kernel_rfl) (fun _ _ _ h => h) (yieldsIf_build (by rfl) 41 _ rfl RC.toArray (built41 HRC.out (by rfl) (by rfl) (by rfl) (by rfl))) hHeld ?_
                      (try simp only [Act.put, List.setIfInBounds_toArray, List.set_cons_zero, List.set_cons_succ])
                      refine wpAnyH_ready (rs := [14]) (by kernel_rfl) (by simp) ?_
                      refine AllReadyH.cons (o := { dst := Option.none, op := Go.Op.store 41 (Go.Operand.tmp 23) (Go.Operand.tmp 156), type := 0, pos := "law.go:338", after := #[{ on := 13, ground := Go.Ground.data }, { on := 12, ground := Go.Ground.data }, { on := 11, ground := Go.Ground.chain }, { on := 0, ground := Go.Ground.phase }, { on := 1, ground := Go.Ground.phase }, { on := 2, ground := Go.Ground.phase }, { on := 3, ground := Go.Ground.phase }, { on := 4, ground := Go.Ground.phase }, { on := 5, ground := Go.Ground.phase }, { on := 6, ground := Go.Ground.phase }, { on := 7, ground := Go.Ground.phase }, { on := 8, ground := Go.Ground.phase }, { on := 9, ground := Go.Ground.phase }, { on := 10, ground := Go.Ground.phase }, { on := 11, ground := Go.Ground.phase }, { on := 12, ground := Go.Ground.phase }, { on := 13, ground := Go.Ground.phase }], guard := Option.none }) rfl (fun K hK => ?_) AllReadyH.nil
                      rw [if_pos (by rfl)]
                      have HM7 := hid KM.out.1.2.1
                      have K9 := hid (KM.out.setRow (vs' := RC))
                      clear KM
                      refine wp_store_row 41 _ _ rfl _ RC.toArray rfl rfl 41 _ HM7.out I41R.out Z41R.out O41R.out ?_
                      clear HM7
                      generalize World.setRow we MB RC.toArray = wf at *
                      refine hK.out _ _ (SW.out _ _ K9.out.tail) (fun hHeld => ?_)
                      clear hK K
                      (try simp only [Act.put])
                      refine wpAnyH_done (by kernel_rfl) ?_ _
                      clear hHeld
                      go_wp2
                      go_meet
                      exact ⟨MB, rfl, K9⟩
                · go_simp
                  have KM := hid (AM.out _ KD.out)
                  generalize wd.heap.size = MB at *
                  generalize wd.alloc (.cells #[.int .i64 0, .int .i64 0, .int .i64 0, .int .i64 0, .int .i64 0, .int .i64 0, .int .i64 0, .int .i64 0, .int .i64 0, .bool false, .int .i64 0, .string ⟨#[]⟩, .string ⟨#[]⟩, .int .i64 0, .int .i64 0, .int .i64 0, .int .i64 0, .slice none 0 0, .slice none 0 0, .int .i64 0, .int .i64 0, .slice none 0 0, .slice none 0 0] 41) = we at *
                  refine hK.out _ _ (SW.out _ _ KM.out.tail) (fun hHeld => ?_)
                  clear hK K
                  (try simp only [Act.put, List.setIfInBounds_toArray, List.set_cons_zero, List.set_cons_succ])
                  refine wpAnyH_ready (rs := [3]) (by kernel_rfl) (by simp) ?_
                  refine AllReadyH.cons (o := { dst := Option.some 147, op := Go.Op.call { callee := Go.Callee.value (Go.Operand.func 13), args := #[Go.Operand.tmp 145, Go.Operand.tmp 146], argTypes := #[3, 3] }, type := 3, pos := "law.go:338", after := #[{ on := 1, ground := Go.Ground.data }, { on := 2, ground := Go.Ground.data }], guard := Option.none }) rfl (fun K hK => ?_) AllReadyH.nil
                  go_simp
                  go_at_call 13
                  refine (PK1.out _).mono ?_
                  rintro e wz ⟨rfl, hwz⟩
                  subst wz
                  refine hK.out _ _ (SW.out _ _ KM.out.tail) (fun hHeld => ?_)
                  clear hK K
                  (try simp only [Act.put, List.setIfInBounds_toArray, List.set_cons_zero, List.set_cons_succ])
                  refine wpAnyH_ready (rs := [6]) (by kernel_rfl) (by simp) ?_
                  refine AllReadyH.cons (o := { dst := Option.some 150, op := Go.Op.call { callee := Go.Callee.value (Go.Operand.func 13), args := #[Go.Operand.tmp 149, Go.Operand.const (Go.Value.int Go.IntKind.i64 1099511627776)], argTypes := #[3, 3] }, type := 3, pos := "law.go:338", after := #[{ on := 5, ground := Go.Ground.data }, { on := 3, ground := Go.Ground.chain }], guard := Option.none }) rfl (fun K hK => ?_) AllReadyH.nil
                  go_simp
                  go_at_call 13
                  refine (PK2.out _).mono ?_
                  rintro e wz ⟨rfl, hwz⟩
                  subst wz
                  refine hK.out _ _ (SW.out _ _ KM.out.tail) (fun hHeld => ?_)
                  clear hK K
                  (try simp only [Act.put, List.setIfInBounds_toArray, List.set_cons_zero, List.set_cons_succ])
                  refine wpAnyH_ready (rs := [11]) (by kernel_rfl) (by simp) ?_
                  refine AllReadyH.cons (o := { dst := Option.some 155, op := Go.Op.call { callee := Go.Callee.value (Go.Operand.func 13), args := #[Go.Operand.tmp 154, Go.Operand.const (Go.Value.int Go.IntKind.i64 1099511627776)], argTypes := #[3, 3] }, type := 3, pos := "law.go:338", after := #[{ on := 10, ground := Go.Ground.data }, { on := 6, ground := Go.Ground.chain }], guard := Option.none }) rfl (fun K hK => ?_) AllReadyH.nil
                  go_simp
                  go_at_call 13
                  refine (PK3.out _).mono ?_
                  rintro e wz ⟨rfl, hwz⟩
                  subst wz
                  refine hK.out _ _ (SW.out _ _ KM.out.tail) (fun hHeld => ?_)
                  clear hK K
                  (try simp only [Act.put, List.setIfInBounds_toArray, List.set_cons_zero, List.set_cons_succ])
                  as_aux_lemma =>
                    refine wpAnyH_take (i := 12) (oi := { dst := Option.some 156, op := Go.Op.build 41 #[(0, Go.Operand.const (Go.Value.int Go.IntKind.i64 2)), (1, Go.Operand.tmp 147), (2, Go.Operand.const (Go.Value.int Go.IntKind.i64 0)), (3, Go.Operand.tmp 150), (8, Go.Operand.tmp 152), (4, Go.Operand.tmp 155)], type := 41, pos := "law.go:338", after := #[{ on := 3, ground := Go.Ground.data }, { on := 6, ground := Go.Ground.data }, { on := 8, ground := Go.Ground.data }, { on := 11, ground := Go.Ground.data }], guard := Option.none }) (v := .agg RC.toArray) rfl (by kernel_rfl) (by kernel_rfl) (by kernel_rfl) (fun _ _ _ h => h) (yieldsIf_build (by rfl) 41 _ rfl RC.toArray (built41 HRC.out (by rfl) (by rfl) (by rfl) (by rfl))) hHeld ?_
                    (try simp only [Act.put, List.setIfInBounds_toArray, List.set_cons_zero, List.set_cons_succ])
                    refine wpAnyH_ready (rs := [14]) (by kernel_rfl) (by simp) ?_
                    refine AllReadyH.cons (o := { dst := Option.none, op := Go.Op.store 41 (Go.Operand.tmp 23) (Go.Operand.tmp 156), type := 0, pos := "law.go:338", after := #[{ on := 13, ground := Go.Ground.data }, { on := 12, ground := Go.Ground.data }, { on := 11, ground := Go.Ground.chain }, { on := 0, ground := Go.Ground.phase }, { on := 1, ground := Go.Ground.phase }, { on := 2, ground := Go.Ground.phase }, { on := 3, ground := Go.Ground.phase }, { on := 4, ground := Go.Ground.phase }, { on := 5, ground := Go.Ground.phase }, { on := 6, ground := Go.Ground.phase }, { on := 7, ground := Go.Ground.phase }, { on := 8, ground := Go.Ground.phase }, { on := 9, ground := Go.Ground.phase }, { on := 10, ground := Go.Ground.phase }, { on := 11, ground := Go.Ground.phase }, { on := 12, ground := Go.Ground.phase }, { on := 13, ground := Go.Ground.phase }], guard := Option.none }) rfl (fun K hK => ?_) AllReadyH.nil
                    rw [if_pos (by rfl)]
                    have HM7 := hid KM.out.1.2.1
                    have K9 := hid (KM.out.setRow (vs' := RC))
                    clear KM
                    refine wp_store_row 41 _ _ rfl _ RC.toArray rfl rfl 41 _ HM7.out I41R.out Z41R.out O41R.out ?_
                    clear HM7
                    generalize World.setRow we MB RC.toArray = wf at *
                    refine hK.out _ _ (SW.out _ _ K9.out.tail) (fun hHeld => ?_)
                    clear hK K
                    (try simp only [Act.put])
                    refine wpAnyH_done (by kernel_rfl) ?_ _
                    clear hHeld
                    go_wp2
                    go_meet
                    exact ⟨MB, rfl, K9⟩
            case rest =>
              obtain ⟨MB, rfl, KC⟩ := hcut
              have HM1 := hid KC.out.1.2.1
              have KC2 : Hid (All (pxL P x b m n1 n2 ++ (blkC MB RC 41 :: (blkC AB [.bool false, .int .i64 0, .int .i64 0, .int .i64 0, .int .i64 0, .int .i64 0, .slice none 0 0] 48 :: (blkC WB DW 45 :: blkC OB OC 43 :: [blkC C0 CL 23, inC w])))) _) := hid (KC.out.perm (List.perm_middle (l₁ := pxL P x b m n1 n2)).symm)
              have RP : Hid (∀ W, All (pxL P x b m n1 n2 ++ (blkC MB RC 41 :: (blkC AB [.bool false, .int .i64 0, .int .i64 0, .int .i64 0, .int .i64 0, .int .i64 0, .slice none 0 0] 48 :: (blkC WB DW 45 :: blkC OB OC 43 :: [blkC C0 CL 23, inC w])))) W → Calls Tryd.prog 15 #[.pointer (some ⟨P, 0, none⟩), .agg RC.toArray] W fun e w' => ∃ (AC : List Value) (is : Bool) (x' : Px) (n1' n2' : Int) (ak : Bool) (nb nm wh : Int) (c4 c5 c6 : Value), e = .returned (.tuple #[.agg AC.toArray, .bool is]) ∧ On x' N (i + 1) asked least b m n1' n2' ∧ AcH AC ak nb nm wh c4 c5 c6 ∧ Tl x x' is ak nb nm asked least ∧ AC.toArray.all (·.oneCell') = true ∧ (0 < R0 → is = true ∧ ak = false ∧ nm = U1) ∧ All (pxL P x' b m n1' n2' ++ (blkC MB RC 41 :: (blkC AB [.bool false, .int .i64 0, .int .i64 0, .int .i64 0, .int .i64 0, .int .i64 0, .slice none 0 0] 48 :: (blkC WB DW 45 :: blkC OB OC 43 :: [blkC C0 CL 23, inC w])))) w') := hid (fun W hW => by
                have := reply_step hW (by simp) HT.out HF.out hO.out ⟨f0, f1⟩ ⟨v0, v1⟩ ⟨u0, u1⟩ RQ.out
                rw [← hR0.out, ← hRC.out] at this
                exact this)
              have WB1 : Hid (∀ W y p q ab, All (pxL P y b m p q ++ (blkC AB ab 48 :: (blkC MB RC 41 :: (blkC WB DW 45 :: blkC OB OC 43 :: [blkC C0 CL 23, inC w])))) W → W.cell? ⟨WB, 1, none⟩ = some (.int .i64 R0) ∧ W.cell? ⟨MB, 4, none⟩ = some (.int .i64 U1)) := hid (fun W y p q ab hW => by
                have d := hW.blk (g := WB) (vs := DW) (t := 45) (by simp)
                have d2 := hW.blk (g := MB) (vs := RC) (t := 41) (by simp)
                rw [hDW.out] at d
                rw [hRC.out] at d2
                exact ⟨by rw [cell_at d, hR0.out]; rfl, by rw [cell_at d2]; rfl⟩)
              clear PK1 PK2 PK3 SW AM KD hN3 hN1 f0 f1 v0 v1 u0 u1 RQ hRC HRC hR0 O41R Z41R KC
              go_upto_region 36 with (first | (refine wpList_load_row rfl 41 _ rfl MB rfl 41 RC.toArray (0, 0) _ HM1.out Tryd.underlying41 rfl I41R.out ?_) | (go_at_call 16; refine (RD.out _ _ (by simp) KC2.out).mono ?_; rintro e w8 ⟨r8, rfl, A8⟩; have K8 := hid A8; clear A8; have HM2 := hid (K8.out.blk (g := MB) (vs := RC) (t := 41) (by simp))) | (refine wpList_load_row rfl 41 _ rfl MB rfl 41 RC.toArray (0, 0) _ HM2.out Tryd.underlying41 rfl I41R.out ?_) | (go_at_call 15; refine (RP.out _ K8.out).mono ?_; rintro e w9 ⟨AC, is, x', n1', n2', ak, nb, nm, wh, c4, c5, c6, rfl, hO', hac, htl, hone, hsay, A9⟩; have I48 : Hid ((Tryd.prog.info? 48).map (·.size) = some AC.toArray.size) := hid (by rw [List.size_toArray, hac.len]; exact info48); have Z48 : Hid (7 = AC.toArray.size) := hid (by rw [List.size_toArray, hac.len]); have O48 := hid hone; have HAC := hid hac; have HTL := hid htl; have HO := hid hO'; have SAY := hid hsay; have A10 := A9.perm ((List.Perm.append_left (pxL P x' b m n1' n2')) (List.Perm.swap (blkC AB [.bool false, .int .i64 0, .int .i64 0, .int .i64 0, .int .i64 0, .int .i64 0, .slice none 0 0] 48) (blkC MB RC 41) (blkC WB DW 45 :: blkC OB OC 43 :: [blkC C0 CL 23, inC w]))); have HB6 := hid (A10.blk (g := AB) (vs := [.bool false, .int .i64 0, .int .i64 0, .int .i64 0, .int .i64 0, .int .i64 0, .slice none 0 0]) (t := 48) (by simp)); have K10 := hid (ab_set A10 AC); clear A9 A10 hac htl hone hO' hsay) | (refine wpList_store_row rfl 48 _ _ rfl AB AC.toArray rfl rfl 48 _ HB6.out I48.out Z48.out O48.out ?_))
              clear HM1 HM2 RD RP K8 KC2 I48 Z48 O48 HB6
              generalize World.setRow w9 AB AC.toArray = wz at *
              obtain ⟨y1, y4⟩ := WB1.out _ _ _ _ _ K10.out
              have ab0 := K10.out.blk (g := AB) (vs := AC) (t := 48) (by simp)
              rw [HAC.out.e] at ab0
              have a0c : wz.cell? ⟨AB, 0, none⟩ = some (.bool ak) := by rw [cell_at ab0]; rfl
              have a2c : wz.cell? ⟨AB, 2, none⟩ = some (.int .i64 nm) := by rw [cell_at ab0]; rfl
              have K11 : Hid (All (pxL P x' b m n1' n2' ++ (blkC AB [.bool ak, .int .i64 nb, .int .i64 nm, .int .i64 wh, c4, c5, c6] 48 :: (blkC WB DW 45 :: blkC OB OC 43 :: [blkC C0 CL 23, inC w]))) wz) := hid (by
                have := dropm (K10.out.perm ((List.Perm.append_left (pxL P x' b m n1' n2')) (List.Perm.swap (blkC MB RC 41) (blkC AB AC 48) (blkC WB DW 45 :: blkC OB OC 43 :: [blkC C0 CL 23, inC w]))))
                rw [← HAC.out.e]; exact this)
              clear WB1 ab0 HAC K10
              by_cases hr : 0 < R0
              · obtain ⟨rfl, rfl, rfl⟩ := SAY.out hr
                by_cases h8 : r8 = 0
                · have e8' : (r8 == 0) = true := by simpa using h8
                  clear h8
                  go_wp2
                  go_meet
                  exact ⟨x', n1', n2', asked, least, true, false, nb, nm, wh, c4, c5, c6, rfl, rfl, rfl, HO, HTL, K11⟩
                · have e8' : (r8 == 0) = false := by simpa using h8
                  clear h8
                  go_wp2
                  go_meet
                  exact ⟨x', n1', n2', asked, least, true, false, nb, nm, wh, c4, c5, c6, rfl, rfl, rfl, HO, HTL, K11⟩
              · clear SAY
                go_wp2
                go_meet
                exact ⟨x', n1', n2', asked, least, is, ak, nb, nm, wh, c4, c5, c6, rfl, rfl, rfl, HO, HTL, K11⟩
        have e8 : (o.k == 8) = false := by simpa using h8
        go_wp2
        go_meet
        exact ⟨x, n1, n2, asked, least, false, false, 0, 0, 0, .int .i64 0, .int .i64 0, .slice none 0 0, rfl, rfl, rfl, hid hO.out.up, hid Tl.same, K3⟩
      case rest =>
        as_aux_lemma =>
          obtain ⟨x', n1', n2', asked', least', is, ak, nb, nm, wh, c4, c5, c6, rfl, rfl, rfl, HO, HTL, KR⟩ := hcut
          clear K3 SR2 hso HT HF
          obtain ⟨R1, hR1⟩ : ∃ r, r = x'.rqO := ⟨_, rfl⟩
          obtain ⟨Q1, hQ1⟩ : ∃ r, r = x'.quO := ⟨_, rfl⟩
          obtain ⟨R0, hR0⟩ : ∃ r, r = x.rqO := ⟨_, rfl⟩
          obtain ⟨Q0, hQ0⟩ : ∃ r, r = x.quO := ⟨_, rfl⟩
          obtain ⟨S1, hS1⟩ : ∃ r, r = x'.seen := ⟨_, rfl⟩
          obtain ⟨V1, hV1⟩ : ∃ r, r = x'.view := ⟨_, rfl⟩
          obtain ⟨L1, hL1⟩ : ∃ r, r = x'.rq.num := ⟨_, rfl⟩
          obtain ⟨ID1, hID⟩ : ∃ r, r = x'.id := ⟨_, rfl⟩
          have ES := hid hS1
          have EV := hid hV1
          have DN : x'.desk = [.int .i64 ID1, .int .i64 R1, .int .i64 Q1, .int .i64 S1, .int .i64 V1, .int .i64 L1] := by rw [hID, hR1, hQ1, hS1, hV1, hL1]; rfl
          have D9 := hid (desk_any KR.out)
          rw [DN] at D9
          have DC : Hid (∀ W ds, All ds W → blkC WB DW 45 ∈ ds → W.cell? ⟨WB, 1, none⟩ = some (.int .i64 R0) ∧ W.cell? ⟨WB, 2, none⟩ = some (.int .i64 Q0) ∧ W.cell? ⟨WB, 5, none⟩ = some (.int .i64 x.rq.num)) := hid (fun W ds hW hm => by
            have d := hW.blk hm
            rw [hDW.out] at d
            exact ⟨by rw [cell_at d, hR0]; rfl, by rw [cell_at d, hQ0]; rfl, by rw [cell_at d]; rfl⟩)
          have t1 := HTL.out.t1
          have t2 := HTL.out.t2
          have t3 := HTL.out.t3
          obtain ⟨s1, v1, l1⟩ := HTL.out.t4
          rw [← hR0, ← hR1, ← hS1] at t1
          rw [← hQ0, ← hQ1, ← hS1] at t2
          rw [← hR0, ← hQ0, ← hR1, ← hQ1] at t3
          rw [← hS1] at s1
          rw [← hV1] at v1
          rw [← hL1] at l1
          clear hR1 hQ1 hR0 hQ0 hS1 hV1 hL1 hID DN HTL
          go_upto_region 39 with (go_at_call 9; refine D9.out.mono ?_; rintro e w8 ⟨rfl, A8⟩; have K8 := hid A8; clear A8)
          have K9 : Hid (All (pxL P x' b m n1' n2' ++ (blkC w8.heap.size [.int .i64 ID1, .int .i64 R1, .int .i64 Q1, .int .i64 S1, .int .i64 V1, .int .i64 L1] 45 :: (blkC AB [.bool ak, .int .i64 nb, .int .i64 nm, .int .i64 wh, c4, c5, c6] 48 :: (blkC WB DW 45 :: blkC OB OC 43 :: [blkC C0 CL 23, inC w])))) (w8.alloc (.cells #[.int .i64 ID1, .int .i64 R1, .int .i64 Q1, .int .i64 S1, .int .i64 V1, .int .i64 L1] 45))) := hid ((K8.out.addBlk [.int .i64 ID1, .int .i64 R1, .int .i64 Q1, .int .i64 S1, .int .i64 V1, .int .i64 L1] 45).perm (List.perm_middle (l₁ := pxL P x' b m n1' n2')).symm)
          clear K8 D9 KR
          generalize w8.heap.size = NB at *
          generalize w8.alloc (.cells #[.int .i64 ID1, .int .i64 R1, .int .i64 Q1, .int .i64 S1, .int .i64 V1, .int .i64 L1] 45) = w9 at *
          obtain ⟨d1, d2, d5⟩ := DC.out _ _ K9.out (by simp)
          have nb0 := K9.out.blk (g := NB) (vs := [.int .i64 ID1, .int .i64 R1, .int .i64 Q1, .int .i64 S1, .int .i64 V1, .int .i64 L1]) (t := 45) (by simp)
          have ab0 := K9.out.blk (g := AB) (vs := [.bool ak, .int .i64 nb, .int .i64 nm, .int .i64 wh, c4, c5, c6]) (t := 48) (by simp)
          have n1c : w9.cell? ⟨NB, 1, none⟩ = some (.int .i64 R1) := by rw [cell_at nb0]; rfl
          have n2c : w9.cell? ⟨NB, 2, none⟩ = some (.int .i64 Q1) := by rw [cell_at nb0]; rfl
          have n3c : w9.cell? ⟨NB, 3, none⟩ = some (.int .i64 S1) := by rw [cell_at nb0]; rfl
          have n4c : w9.cell? ⟨NB, 4, none⟩ = some (.int .i64 V1) := by rw [cell_at nb0]; rfl
          have n5c : w9.cell? ⟨NB, 5, none⟩ = some (.int .i64 L1) := by rw [cell_at nb0]; rfl
          have a0c : w9.cell? ⟨AB, 0, none⟩ = some (.bool ak) := by rw [cell_at ab0]; rfl
          have a1c : w9.cell? ⟨AB, 1, none⟩ = some (.int .i64 nb) := by rw [cell_at ab0]; rfl
          have a2c : w9.cell? ⟨AB, 2, none⟩ = some (.int .i64 nm) := by rw [cell_at ab0]; rfl
          have K10 := hid (dropm (dropm (dropm (dropm K9.out))))
          clear nb0 ab0 K9 DC hDW
          generalize x.rq.num = L0 at *
          have l1' : ¬ L1 < L0 := by omega
          have s1' : ¬ S1 < x.seen := by omega
          have v1' : ¬ V1 < x.view := by omega
          clear l1 s1 v1
          generalize x.seen = S0 at *
          generalize x.view = V0 at *
          cases is with
          | false =>
            obtain ⟨u1, u2⟩ := t3 rfl
            clear t1 t2 t3
            by_cases hr : 0 < R0
            · obtain rfl := u1 hr
              clear u1
              by_cases hq : 0 < Q0
              · obtain rfl := u2 hq
                clear u2
                as_aux_lemma =>
                  go_wp2
                  go_roundw
                  case rel => exact ⟨i + 1, x', n1', n2', _, _, by omega, by go_num, rfl, rfl, by rw [ES.out], by rw [EV.out], HO, K10⟩
                  case measure => simp [intOf]; omega
              · clear u2
                as_aux_lemma =>
                  go_wp2
                  go_roundw
                  case rel => exact ⟨i + 1, x', n1', n2', _, _, by omega, by go_num, rfl, rfl, by rw [ES.out], by rw [EV.out], HO, K10⟩
                  case measure => simp [intOf]; omega
            · clear u1
              by_cases hq : 0 < Q0
              · obtain rfl := u2 hq
                clear u2
                as_aux_lemma =>
                  go_wp2
                  go_roundw
                  case rel => exact ⟨i + 1, x', n1', n2', _, _, by omega, by go_num, rfl, rfl, by rw [ES.out], by rw [EV.out], HO, K10⟩
                  case measure => simp [intOf]; omega
              · clear u2
                as_aux_lemma =>
                  go_wp2
                  go_roundw
                  case rel => exact ⟨i + 1, x', n1', n2', _, _, by omega, by go_num, rfl, rfl, by rw [ES.out], by rw [EV.out], HO, K10⟩
                  case measure => simp [intOf]; omega
          | true =>
            cases ak with
            | false =>
              obtain ⟨u1, u2, u3, u4⟩ := t1 rfl rfl
              clear t1 t2 t3
              have u1' : (R0 == 0) = false := by simpa using u1
              have u4' : ¬ S1 < nm := by omega
              subst u2 u3
              clear u1 u4
              as_aux_lemma =>
                go_wp2
                go_roundw
                case rel => exact ⟨i + 1, x', n1', n2', _, _, by omega, by go_num, rfl, rfl, by rw [ES.out], by rw [EV.out], HO, K10⟩
                case measure => simp [intOf]; omega
            | true =>
              obtain ⟨u1, u2, u3, u4, u5, u6⟩ := t2 rfl rfl
              clear t1 t2 t3
              have u1' : (Q0 == 0) = false := by simpa using u1
              have u4' : ¬ nm < least' := by omega
              have u6' : ¬ S1 < nm := by omega
              have e3 : Q0 = asked' := by omega
              subst u2 u5 e3
              clear u1 u4 u6 u3
              as_aux_lemma =>
                go_wp2
                go_roundw
                case rel => exact ⟨i + 1, x', n1', n2', _, _, by omega, by go_num, rfl, rfl, by rw [ES.out], by rw [EV.out], HO, K10⟩
                case measure => simp [intOf]; omega
    · have hlt' : ¬ (i : Int) < (n : Int) := by omega
      go_wp2
      go_ret
      exact ⟨rfl, HA.out.into (by simp)⟩
end Go.Proofs.YteloaggebkbeeaaDoor

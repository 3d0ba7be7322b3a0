import Derived.Test.YtblojlaifnmimaaGreatDoorJ20
namespace Go.Proofs.YtblojlaifnmimaaGreatDoor
open Go.RowKit
set_option linter.unusedVariables false

/-- A list of steps that is read. -/
def Sps (w : World) (v : Value) (ss : List Sp) : Prop := ∃ ao c, v = .slice ao ss.length c ∧ ss.length ≤ c ∧ ∀ (i : Nat) (x : Sp), ss[i]? = some x → ∃ g o, ao = some ⟨g, o, none⟩ ∧ g < w.heap.size ∧ w.rangeAt g (o + i * 10) x.vals
theorem range_later {w w' : World} {g o : Nat} {l : List Value} (hb : Below w.heap.size w w') (hg : g < w.heap.size) (h : w.rangeAt g o l) : w'.rangeAt g o l := fun j u hu => cell_under hb hg (h j u hu)
theorem Sps.later {w w' : World} {v : Value} {ss : List Sp} (h : Sps w v ss) (hb : Below w.heap.size w w') : Sps w' v ss := by
  obtain ⟨ao, c, e, hc, hx⟩ := h
  refine ⟨ao, c, e, hc, fun i x hi => ?_⟩
  obtain ⟨g, o, ea, hg, hr⟩ := hx i x hi
  exact ⟨g, o, ea, Nat.lt_of_lt_of_le hg hb.size, range_later hb hg hr⟩
theorem Sps.of_row {w : World} {base : Nat} {v : Value} {ss : List Sp} (h : w.ownsRow base 43 10 v ss.length (ss.flatMap Sp.vals)) : Sps w v ss := by
  obtain ⟨ao, c, rfl⟩ := owns_form h
  refine ⟨ao, c, rfl, (row_cap h).2.1, fun i x hx => ?_⟩
  obtain ⟨g, o, e, hg, hr⟩ := flat_row (f := Sp.vals) (fun x => x.len) (by decide) h i x hx
  exact ⟨g, o, e, hg, hr⟩
theorem sps_mem {v : Value} {ss : List Sp} {cs : List Comp} {w : World} (h : All cs w) (hm : spC v ss ∈ cs) : Sps w v ss := Sps.of_row (base := 0) (h.mem hm).2.1

theorem field_len {nm tx : List UInt8} {n m c : Nat} (h1 : nm.length ≤ 64) (h2 : tx.length ≤ 64) (h3 : n ≤ 1099511627776) (h4 : m ≤ 1099511627776) : (fieldW nm tx n m c).length ≤ 64 := by
  unfold fieldW
  have d1 := digits_short (v := n) (by omega)
  have d2 := digits_short (v := m) (by omega)
  split
  · exact h1
  · split
    · exact h2
    · split <;> omega
theorem opWs_mem {o : OpI} (h : opE o = 0) : ∀ x ∈ opWs o, x.length ≤ 64 := by
  intro x hx
  obtain ⟨_, _, hn0, hn1, hm0, hm1, l1, l2, _⟩ := chkO_zero h
  unfold opWs opA at hx
  rw [if_neg (fun hh => hh h)] at hx
  unfold opW at hx
  rcases List.mem_cons.1 hx with rfl | hx
  · have := nmN_len o.k.toNat; omega
  · unfold flds at hx
    obtain ⟨c, _, rfl⟩ := List.mem_map.1 hx
    exact field_len l1 l2 (by omega) (by omega)
theorem snN_len (k : Nat) : (snN k).length ≤ 7 := by
  have key : ∀ p ∈ sfN, p.1.length ≤ 7 := by decide
  unfold snN
  by_cases hk : k < sfN.length
  · rw [List.getD, List.getElem?_eq_getElem hk]
    exact key _ (List.getElem_mem hk)
  · rw [List.getD, List.getElem?_eq_none (by omega)]
    simp
theorem stepWs_mem {s : Sp} (hI : spI s) : ∀ x ∈ stepWs s, x.length ≤ 64 := by
  intro x hx
  unfold stepWs at hx
  by_cases hE : stepE s ≠ 0
  · rw [if_pos hE] at hx; cases hx
  · rw [if_neg hE] at hx
    have hE0 : stepE s = 0 := Classical.byContradiction hE
    unfold stepE at hE0
    by_cases hm : mayS s = false
    · rw [if_pos hm] at hE0; simp at hE0
    · rw [if_neg hm] at hE0
      rcases List.mem_cons.1 hx with rfl | hx
      · have := snN_len s.k.toNat; omega
      · obtain ⟨c, hc, hx⟩ := List.mem_flatMap.1 hx
        unfold fieldS at hx
        split at hx
        · rename_i h79
          subst h79
          rw [if_pos hc] at hE0
          exact opWs_mem hE0 x hx
        · simp only [List.mem_cons, List.not_mem_nil, or_false] at hx
          subst hx
          have := hI.get c.toNat
          have := digits_short (v := (getS c.toNat s).toNat) (by omega)
          omega
theorem stepWs_len (s : Sp) : (stepWs s).length ≤ 13 := by
  unfold stepWs
  split
  · simp
  · have h1 := wsS_len s s.k.toNat (slN s.k.toNat)
    have h2 := slN_len s.k.toNat
    unfold wsS at h1
    omega
theorem lenJ_small : ∀ {ws : Ws}, (∀ x ∈ ws, x.length ≤ 64) → lenJ ws ≤ 272 * ws.length
  | [], _ => by simp [lenJ]
  | x :: r, h => by
    have h1 := lenJ_small (ws := r) (fun y hy => h y (by simp [hy]))
    have h2 := h x (by simp)
    simp only [lenJ, List.map_cons, List.sum_cons, List.length_cons] at *
    omega
theorem headWs_mem {c : List Int} (h : ∀ n ∈ c, 0 ≤ n ∧ n ≤ 1024) : ∀ x ∈ headWs c, x.length ≤ 64 := by
  intro x hx
  rcases List.mem_cons.1 hx with rfl | hx
  · decide
  · obtain ⟨n, hn, rfl⟩ := List.mem_map.1 hx
    have := h n hn
    have := digits_short (v := n.toNat) (by omega)
    omega
theorem lineP_len {ws : Ws} {n : Nat} (h : lenJ ws ≤ n) : (lineP ws).length ≤ n + 1 := by
  have := joinW_len ws ws.length (Nat.le_refl _)
  rw [List.take_length] at this
  unfold lineP
  simp only [List.length_append, List.length_cons, List.length_nil]
  omega
/-- The text up to a step. -/
def textK (c : List Int) (ss : List Sp) (k : Nat) : List UInt8 := textP c (ss.take k)
theorem textK_snoc (c : List Int) {ss : List Sp} {k : Nat} {s : Sp} (h : ss[k]? = some s) : textK c ss (k + 1) = textK c ss k ++ lineP (stepWs s) := by
  unfold textK textP
  rw [List.take_add_one, h]
  simp
theorem badS_at {ss : List Sp} {k : Nat} {s : Sp} (h : ss[k]? = some s) : badS (ss.drop k) = if stepE s ≠ 0 then stepE s else badS (ss.drop (k + 1)) := by
  obtain ⟨hk, rfl⟩ := List.getElem?_eq_some_iff.1 h
  rw [List.drop_eq_getElem_cons hk, badS]
theorem textK_len {c : List Int} {ss : List Sp} (hc : c.length = 10) (hn : ∀ n ∈ c, 0 ≤ n ∧ n ≤ 1024) (hI : ∀ s ∈ ss, spI s) : ∀ k, k ≤ ss.length → (textK c ss k).length ≤ 3000 + 3600 * k
  | 0, _ => by
    have h1 := lineP_len (lenJ_small (headWs_mem hn))
    rw [headWs_len hc] at h1
    unfold textK textP
    simp only [List.take_zero, List.flatMap_nil, List.append_nil]
    omega
  | k + 1, hk => by
    have ih := textK_len hc hn hI k (by omega)
    have hx : ss[k]? = some ss[k] := List.getElem?_eq_getElem (by omega)
    rw [textK_snoc c hx, List.length_append]
    have h1 := lineP_len (lenJ_small (stepWs_mem (hI ss[k] (List.getElem_mem _))))
    have h2 := stepWs_len ss[k]
    omega

set_option maxHeartbeats 3200000 in
set_option maxRecDepth 1000000 in
theorem Print_any {c : List Int} {v : Value} {ss : List Sp} {w : World} (hE : En w) (hc : c.length = 10) (hv : Sps w v ss) (hI : ∀ s ∈ ss, spI s) (hn : ss.length ≤ 140737488355328) :
    Calls Tryz.prog 13 #[.agg (cI c ++ [v]).toArray] w fun e w' => e = .returned (.tuple #[.string ⟨(printT c ss).toArray⟩, .int .i64 (printE c ss)]) ∧ Below w.heap.size w w' := by
  have A0 := hid ((All.came w).addBlk (cI c ++ [v]) 27)
  obtain ⟨ao, cc, rfl, hcc, hx⟩ := hv
  have C := hid (cfgC_any (c := c) (w := w.alloc (.cells (cI c ++ [Value.slice ao ss.length cc]).toArray 27)) hc)
  have I24 : Hid ((Tryz.prog.info? 24).map (·.size) = some (cI c).length) := hid (by rw [Tryz.i24, cI_len, hc])
  have RG : Hid (∀ W, All [blkC w.heap.size (cI c ++ [Value.slice ao ss.length cc]) 27, inC w] W → W.rangeAt w.heap.size 0 (cI c) ∧ W.cell? ⟨w.heap.size, 10, none⟩ = some (.slice ao ss.length cc)) := hid (fun W h => by
    have hb := h.1.2.1
    refine ⟨fun j u hu => ?_, ?_⟩
    · rw [cell_at hb, Nat.zero_add, List.getElem?_toArray, List.getElem?_append_left (List.getElem?_eq_some_iff.1 hu).1]
      exact hu
    · rw [cell_at hb, List.getElem?_toArray, List.getElem?_append_right (by rw [cI_len, hc]; exact Nat.le_refl _), cI_len, hc]
      rfl)
  have G0 := hid (RG.out _ A0.out).1
  by_cases hC : cfgL c ≠ 0
  · have e1 : printE c ss = cfgL c := by unfold printE; rw [if_pos hC]
    have e2 : printT c ss = [] := by unfold printT; rw [e1, if_pos hC]
    rw [e1, e2]
    have hC' : (cfgL c != 0) = true := by simpa using hC
    clear e1 e2 hC hE hc hx hI
    generalize hPV : cI c ++ [Value.slice ao ss.length cc] = PV at *
    clear hPV
    generalize cfgL c = CE at *
    generalize cI c = CC at *
    go_enter Tryz.func13, Tryz.ntmps13
    go_wp2_with (first | (refine wpList_load_mid rfl 24 _ rfl w.heap.size 0 rfl CC _ G0.out Tryz.underlying24 rfl I24.out ?_) | (go_at_call 24; refine C.out.mono ?_; rintro e w1 ⟨rfl, B1⟩; have K1 := hid (A0.out.later B1); clear B1))
    go_ret2
    exact ⟨rfl, K1.out.into (by simp)⟩
  · have hC0 : cfgL c = 0 := Classical.byContradiction hC
    rw [hC0] at C
    by_cases h4 : 4000 < ss.length
    · have e1 : printE c ss = 172 := by unfold printE; rw [if_neg hC, if_pos h4]
      have e2 : printT c ss = [] := by unfold printT; rw [e1]; rfl
      rw [e1, e2]
      have h4' : (4000 : Int) < (ss.length : Int) := by omega
      clear e1 e2 hC hE hc hx hI hC0
      generalize hPV : cI c ++ [Value.slice ao ss.length cc] = PV at *
      clear hPV
      generalize cI c = CC at *
      generalize hN : ss.length = n at *
      go_enter Tryz.func13, Tryz.ntmps13
      go_wp2_with (first | (refine wpList_load_mid rfl 24 _ rfl w.heap.size 0 rfl CC _ G0.out Tryz.underlying24 rfl I24.out ?_) | (go_at_call 24; refine C.out.mono ?_; rintro e w1 ⟨rfl, B1⟩; have K1 := hid (A0.out.later B1); clear B1; obtain ⟨_, y10⟩ := RG.out _ K1.out; refine Hid.out ?_))
      refine hid ?_
      go_wp2
      go_ret2
      exact ⟨rfl, K1.out.into (by simp)⟩
    · have h4' : ¬ (4000 : Int) < (ss.length : Int) := by omega
      have hcn := cfgL_nat hc hC0
      have ePE : printE c ss = if badS ss ≠ 0 then badS ss else if 65536 < (textP c ss).length then 172 else 0 := by unfold printE; rw [if_neg hC, if_neg h4]
      have EN : Hid (∀ W, Below w.heap.size w W → En W) := hid (fun W hb => hE.later hb)
      have HW : Hid (∀ W, Below w.heap.size w W → Calls Tryz.prog 26 #[.agg (cI c).toArray] W fun e w' => ∃ v, e = .returned v ∧ Rt w' v (headWs c) ∧ Below W.heap.size W w') := hid (fun W hb => (headWords_any (All.came W) (fun W' h => ((hE.later hb).later (h.into (by simp))).v) hc hcn).mono fun e w' ⟨v, he, h⟩ => ⟨v, he, rt_own h, h.into (by simp)⟩)
      have SW : Hid (∀ s W, s ∈ ss → Below w.heap.size w W → Calls Tryz.prog 27 #[.agg s.vals.toArray] W fun e w' => ∃ v, e = .returned (.tuple #[v, .int .i64 (stepE s)]) ∧ Rt w' v (stepWs s) ∧ Below W.heap.size W w') := hid (fun s W hs hb => (stepWords_any (All.came W) (fun W' h => (hE.later hb).later (h.into (by simp))) (hI s hs)).mono fun e w' ⟨v, he, h⟩ => ⟨v, he, rt_own h, h.into (by simp)⟩)
      have TL := hid (textK_len (ss := ss) hc hcn hI)
      have WH : Hid (∀ B v W, Bd B [] W → Rt W v (headWs c) → Calls Tryz.prog 25 #[ptr B, v] W fun e w' => e = .returned (.tuple #[]) ∧ Bd B (textK c ss 0) w' ∧ Below B W w') := hid (fun B v W h1 h2 => by
        have h3 := lenJ_small (headWs_mem hcn)
        rw [headWs_len hc] at h3
        have := writeLine_any h1 h2 (by rw [headWs_len hc]; omega) (by omega) (by simp)
        rw [List.nil_append] at this
        unfold textK textP
        simpa using this)
      have WS : Hid (∀ k s B v W, ss[k]? = some s → Bd B (textK c ss k) W → Rt W v (stepWs s) → Calls Tryz.prog 25 #[ptr B, v] W fun e w' => e = .returned (.tuple #[]) ∧ Bd B (textK c ss (k + 1)) w' ∧ Below B W w') := hid (fun k s B v W hk h1 h2 => by
        have hkl := (List.getElem?_eq_some_iff.1 hk).1
        have h3 := lenJ_small (stepWs_mem (hI s (List.mem_of_getElem? hk)))
        have h4 := stepWs_len s
        have h5 := TL.out k (by omega)
        have := writeLine_any h1 h2 (by omega) (by omega) (by omega)
        rw [textK_snoc c hk]
        exact this)
      have ST := hid hx
      clear hE hx hC hC0 h4 hcn hI
      have BL : Hid (∀ k s, ss[k]? = some s → badS (ss.drop k) = if stepE s ≠ 0 then stepE s else badS (ss.drop (k + 1))) := hid (fun k s h => badS_at h)
      have B0 : Hid (badS ss = badS (ss.drop 0)) := hid rfl
      have TN : Hid (textK c ss ss.length = textP c ss) := hid (by unfold textK; rw [List.take_length])
      have DN : Hid (ss.drop ss.length = []) := hid (by simp)
      have PT : Hid (printT c ss = if printE c ss ≠ 0 then [] else textP c ss) := hid rfl
      have EPE := hid ePE
      clear ePE
      generalize printE c ss = PE at *
      generalize printT c ss = PT' at *
      generalize hBS : badS ss = BS at *
      clear hBS
      generalize hTP : textP c ss = TP at *
      clear hTP
      have hzt : (⟨TP.toArray⟩ : ByteArray).size = TP.length := by simp [ByteArray.size]
      generalize hPV : cI c ++ [Value.slice ao ss.length cc] = PV at *
      clear hPV
      generalize cI c = CC at *
      have HN : Hid (∀ W : World, (W.alloc (.cells #[.int .i64 0, .int .i64 0, .int .i64 0, .int .i64 0, .int .i64 0, .int .i64 0, .string ⟨#[]⟩, .string ⟨#[]⟩, .int .i64 0, .int .i64 0] 43)).heap[W.heap.size]? = some (.cells #[.int .i64 0, .int .i64 0, .int .i64 0, .int .i64 0, .int .i64 0, .int .i64 0, .string ⟨#[]⟩, .string ⟨#[]⟩, .int .i64 0, .int .i64 0] 43 (0, 0))) := hid (fun W => heap_alloc_new W _)
      go_enter Tryz.func13, Tryz.ntmps13
      go_upto_region 4 with (first | (refine wpList_load_mid rfl 24 _ rfl w.heap.size 0 rfl CC _ G0.out Tryz.underlying24 rfl I24.out ?_) | (go_at_call 24; refine C.out.mono ?_; rintro e w1 ⟨rfl, B1⟩; have K1 := hid (A0.out.later B1); clear B1))
      clear A0 G0 C
      have IN : Hid (∀ W, All [blkC w.heap.size PV 27, inC w] W → Below w.heap.size w W) := hid (fun W h => h.into (by simp))
      generalize hP : w.heap.size = P at *
      have IN2 : Hid (∀ W, All [blkC P PV 27, inC w] W → Below w.heap.size w W) := hid (fun W h => by rw [hP]; exact IN.out W h)
      have HP := hid hP
      clear hP
      obtain ⟨g1, y10⟩ := RG.out _ K1.out
      have b0 : Hid (Bd w1.heap.size [] (w1.alloc (.cells #[.pointer none, .slice none 0 0] 60))) := hid (Or.inl ⟨Nat.le_refl _, .slice none 0 0, heap_alloc_new w1 _, by simpa [cellsB] using World.ownsRow_nil _ _ 5 1, by simp [Value.ownBlock]⟩)
      have bel0 := hid (ba w1 (.cells #[.pointer none, .slice none 0 0] 60))
      have K2 := hid (K1.out.later bel0.out)
      obtain ⟨g2, y2⟩ := RG.out _ K2.out
      have G2 := hid g2
      clear g1 g2
      have QH := hid (HW.out _ (IN.out _ K2.out))
      go_wp2_with (first | (refine wpList_load_mid rfl 24 _ rfl P 0 rfl CC _ G2.out Tryz.underlying24 rfl I24.out ?_) | (go_at_call 26; refine QH.out.mono ?_; rintro e w2 ⟨v2, rfl, R2, B2⟩; have Q25 := hid (WH.out _ _ _ (b0.out.later B2) R2); have L2 := hid (bel0.out.trans (B2.mono bel0.out.size)); clear R2 B2; refine Hid.out ?_))
      refine hid ?_
      clear QH G2 y2 K2 b0 bel0 HW WH
      go_upto_region 8 with (go_at_call 25; refine Q25.out.mono ?_; rintro e w3 ⟨rfl, A3, B3⟩; have D3 := hid A3; have L3 := hid (L2.out.trans B3); clear A3 B3)
      clear Q25 L2
      have K3 := hid (K1.out.later L3.out)
      obtain ⟨_, y3⟩ := RG.out _ K3.out
      clear K3
      go_wp2_with fail
      generalize hB : w1.heap.size = B at *
      have HB := hid hB
      clear hB y10
      generalize hN : ss.length = n at *
      have HNN := hid hN
      clear hN
      go_loopw [7, 8, 9, 27] (fun u7 u8 u9 iv wr => ∃ k : Nat, k ≤ n ∧ iv = .int .i64 (k : Int) ∧ Hid (BS = badS (ss.drop k)) ∧ Hid (Bd B (textK c ss k) wr) ∧ Hid (Below B w1 wr)) (fun _ _ _ iv _ => n - (intOf iv).toNat)
      case atStart => exact ⟨0, Nat.zero_le _, rfl, B0, D3, L3⟩
      case round =>
        obtain ⟨k, hk, rfl, hBd, HD, HL⟩ := hrel
        clear D3 L3 B0 y3
        have KK : Hid (All [blkC P PV 27, inC w] wr) := hid (K1.out.later (by rw [HB.out]; exact HL.out))
        have hBw := hid HD.out.lt
        by_cases hlt : k < n
        · have hlt' : (k : Int) < (n : Int) := by omega
          obtain ⟨s, hs⟩ : ∃ s, ss[k]? = some s := ⟨_, List.getElem?_eq_getElem (by rw [HNN.out]; exact hlt)⟩
          obtain ⟨g, o, hao, hg, hr⟩ := ST.out k s hs
          subst hao
          have RS := hid (range_later (IN2.out _ KK.out) (by rw [HP.out]; exact hg) hr)
          have bl := hid (BL.out k s hs)
          rw [← hBd.out] at bl
          have Q27 := hid (fun W hb => SW.out s W (List.mem_of_getElem? hs) hb)
          have Q25 := hid (fun v W h1 h2 => WS.out k s B v W hs h1 h2)
          have IS : Hid ((Tryz.prog.info? 43).map (·.size) = some s.vals.length) := hid Tryz.i43
          have JS : Hid ((Tryz.prog.info? 43).map (·.size) = some s.vals.toArray.size) := hid Tryz.i43
          have OS := hid (sp_one s)
          have Z : Hid ((#[.int .i64 0, .int .i64 0, .int .i64 0, .int .i64 0, .int .i64 0, .int .i64 0, .string ⟨#[]⟩, .string ⟨#[]⟩, .int .i64 0, .int .i64 0] : Array Value).size = s.vals.toArray.size) := hid rfl
          have NW : Hid ((wr.alloc (.cells s.vals.toArray 43)).heap[wr.heap.size]? = some (.cells s.vals.toArray 43 (0, 0))) := hid (heap_alloc_new wr _)
          have BA := hid (ba wr (.cells s.vals.toArray 43))
          clear hr hs WS SW BL ST
          have FR : Hid (Below P w (wr.alloc (.cells s.vals.toArray 43))) := hid (IN.out _ (KK.out.later BA.out))
          have Q27 := hid (Q27.out _ FR.out)
          clear FR
          generalize hSE : stepE s = SE at *
          clear hSE
          generalize s.vals = SV at *
          by_cases hE : SE ≠ 0
          · have hE' : (SE != 0) = true := by simpa using hE
            rw [if_pos hE] at bl
            have e1 : Hid (PE = SE) := hid (by rw [EPE.out, bl.out, if_pos hE])
            have e2 : Hid (PT' = []) := hid (by rw [PT.out, e1.out, if_pos hE])
            clear hE EPE PT bl
            go_wp2_with (first | (refine wpList_load_mid rfl 43 _ rfl g (o + k * 10) rfl SV _ RS.out Tryz.underlying43 rfl IS.out ?_) | (refine wpList_store_row rfl 43 _ _ rfl wr.heap.size SV.toArray rfl rfl 43 _ (HN.out wr) JS.out Z.out OS.out ?_; rw [World.setRow_alloc_new]) | (refine wpList_load_row rfl 43 _ rfl wr.heap.size rfl 43 SV.toArray (0, 0) _ NW.out Tryz.underlying43 rfl JS.out ?_) | (go_at_call 27; refine Q27.out.mono ?_; rintro e w4 ⟨v4, rfl, R4, B4⟩; have K4 := hid ((KK.out.later BA.out).later B4); clear R4 B4))
            go_ret2
            exact ⟨by rw [e1.out, e2.out]; rfl, IN2.out _ K4.out⟩
          · have hE0 : SE = 0 := Classical.byContradiction hE
            rw [if_neg hE] at bl
            subst hE0
            clear hE
            have X25 : Hid (∀ v4 w4, Rt w4 v4 (stepWs s) → Below (wr.alloc (.cells SV.toArray 43)).heap.size (wr.alloc (.cells SV.toArray 43)) w4 → Calls Tryz.prog 25 #[ptr B, v4] w4 fun e w' => e = .returned (.tuple #[]) ∧ Bd B (textK c ss (k + 1)) w' ∧ Below B w1 w') := hid (fun v4 w4 h1 h2 => by
              have b4 := BA.out.trans (h2.mono BA.out.size)
              exact (Q25.out v4 w4 (HD.out.later b4) h1).mono fun e w' ⟨he, h5, h6⟩ => ⟨he, h5, (HL.out.trans (b4.mono (by have := hBw.out; omega))).trans h6⟩)
            clear Q25 BA
            go_wp2_with (first | (refine wpList_load_mid rfl 43 _ rfl g (o + k * 10) rfl SV _ RS.out Tryz.underlying43 rfl IS.out ?_) | (refine wpList_store_row rfl 43 _ _ rfl wr.heap.size SV.toArray rfl rfl 43 _ (HN.out wr) JS.out Z.out OS.out ?_; rw [World.setRow_alloc_new]) | (refine wpList_load_row rfl 43 _ rfl wr.heap.size rfl 43 SV.toArray (0, 0) _ NW.out Tryz.underlying43 rfl JS.out ?_) | (go_at_call 27; refine Q27.out.mono ?_; rintro e w4 ⟨v4, rfl, R4, B4⟩; have Q4 := hid (X25.out v4 w4 R4 B4); clear R4 B4) | (go_at_call 25; refine Q4.out.mono ?_; rintro e w5 ⟨rfl, A5, B5⟩; have D5 := hid A5; have L5 := hid B5; clear A5 B5))
            go_roundw
            case rel => exact ⟨k + 1, by omega, by go_num, bl, D5, L5⟩
            case measure => simp [intOf]; omega
        · have hlt' : ¬ (k : Int) < (n : Int) := by omega
          have ek : k = n := by omega
          subst ek
          rw [DN.out] at hBd
          have hb0 : BS = 0 := hBd.out
          rw [TN.out] at HD
          rw [hb0, if_neg (by simp)] at EPE
          have QL := hid (Len_any HD.out)
          clear hBd
          by_cases h6 : 65536 < TP.length
          · have h6' : (65536 : Int) < (TP.length : Int) := by omega
            rw [if_pos h6] at EPE
            have e2 : Hid (PT' = []) := hid (by rw [PT.out, EPE.out]; rfl)
            clear h6 PT
            generalize TP.length = nt at *
            go_wp2_with (go_at_call 28; refine QL.out.mono ?_; rintro e w4 ⟨rfl, hw4⟩; subst w4)
            go_ret2
            exact ⟨by rw [EPE.out, e2.out]; rfl, IN2.out _ KK.out⟩
          · have h6' : ¬ (65536 : Int) < (TP.length : Int) := by omega
            rw [if_neg h6] at EPE
            have e2 : Hid (PT' = TP) := hid (by rw [PT.out, EPE.out]; rfl)
            have QS := hid (String_any HD.out)
            clear h6 PT
            generalize TP.length = nt at *
            go_wp2_with (first | (go_at_call 28; refine QL.out.mono ?_; rintro e w4 ⟨rfl, hw4⟩; subst w4) | (go_at_call 29; refine QS.out.mono ?_; rintro e w5 ⟨rfl, B5⟩; have L5 := hid (HL.out.trans B5); clear B5))
            go_ret2
            exact ⟨by rw [EPE.out, e2.out]; rfl, IN2.out _ (K1.out.later (by rw [HB.out]; exact L5.out))⟩
end Go.Proofs.YtblojlaifnmimaaGreatDoor

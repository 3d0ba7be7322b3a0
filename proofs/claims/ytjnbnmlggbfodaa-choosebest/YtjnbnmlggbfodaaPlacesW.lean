import Derived.Test.YtjnbnmlggbfodaaPlaces
namespace Go.Proofs.Ytjnbnmlggbfodaa
open Go.RowKit
set_option linter.unusedVariables false

set_option maxHeartbeats 1600000 in
set_option maxRecDepth 1000000 in
theorem places22 {w : World} {s : Value} {l : List Wit} (hs : WitsAt w s l) (hl : l.length ≤ 9223372036854775807) (n : Int) : Calls Try.prog 22 #[.int .i64 n, s, .func (.func 23) #[] #[]] w fun e w' => e = .returned (.tuple #[.agg (whL (plR n (l.map Wit.who)).1).toArray, .int .i64 (plR n (l.map Wit.who)).2]) ∧ Below w.heap.size w w' := by
  have A0 : Hid (All (blkC w.heap.size (whL zeroP) 43 :: [inC w]) (w.alloc (.cells (whL zeroP).toArray 43))) := hid ((All.came w).addBlk (whL zeroP) 43)
  have eW : (w.alloc (.cells #[.int .i64 0, .bool false, .int .i64 0, .bool false, .int .i64 0, .bool false, .int .i64 0, .bool false, .int .i64 0, .bool false, .int .i64 0, .bool false, .int .i64 0, .bool false] 43)) = w.alloc (.cells (whL zeroP).toArray 43) := rfl
  have lz : zeroP.length = 7 := rfl
  have sz : ∀ ps : List (Int × Bool), ps.length = 7 → (Try.prog.info? 43).map (·.size) = some (whL ps).toArray.size := fun ps h => by rw [List.size_toArray, whL_len, h]; exact size43
  obtain ⟨ao, c, rfl⟩ := hs.form
  have HS := hid hs
  have SZ := hid sz
  clear hs sz
  by_cases hz : szd n (l.map Wit.who).length = true
  case neg =>
    have ep : Hid (plR n (l.map Wit.who) = (zeroP, 120)) := hid (by simp only [plR, hz]; rfl)
    rw [ep.out]
    have hz' : fl n = false ∨ (fl n = true ∧ l.length = 0) ∨ (fl n = true ∧ 0 < l.length ∧ n < (l.length : Int)) := by
      cases hf : fl n with
      | false => exact Or.inl rfl
      | true =>
        simp [szd, hf] at hz
        by_cases h0 : l.length = 0
        · exact Or.inr (Or.inl ⟨rfl, h0⟩)
        · exact Or.inr (Or.inr ⟨rfl, by omega, by omega⟩)
    clear hz ep HS
    rcases hz' with hf | ⟨hf, h0⟩ | ⟨hf, h0, hn⟩
    · have hm : maj n = 0 := by simp [maj, hf]
      clear hf
      go_enter Try.func22, Try.ntmps22
      go_wp2_with fail
      refine (Majority_any n).mono ?_
      rintro e w1 ⟨rfl, rfl⟩
      rw [hm]
      generalize hw1 : w.alloc (.cells (whL zeroP).toArray 43) = w1 at *
      clear eW hw1
      go_wp2_with (first | (refine wpList_load_row rfl 43 _ rfl w.heap.size rfl 43 (whL zeroP).toArray (0, 0) _ A0.out.1.2.1 Try.underlying43 rfl (SZ.out _ lz) ?_) | (refine wpList_store_row rfl 43 _ _ rfl w.heap.size (whL zeroP).toArray rfl rfl 43 _ A0.out.1.2.1 (SZ.out _ lz) rfl (all_oneCell_toArray (whL_one _)) ?_; have A1 := hid (A0.out.setRw (us := whL zeroP))))
      refine ret_wh (fn := Try.f22) (b := w.heap.size) (ps := zeroP) rfl rfl rfl A1.out.1.2.1 rfl rfl ?_
      exact ⟨rfl, A1.out.into (w0 := w) (by simp)⟩
    · have hm : ¬ maj n = 0 := by rcases fl_cases hf with rfl | rfl | rfl <;> decide
      have hm' : (maj n == 0) = false := by simpa using hm
      generalize l.length = m at *
      subst h0
      clear hf
      go_enter Try.func22, Try.ntmps22
      go_wp2_with fail
      refine (Majority_any n).mono ?_
      rintro e w1 ⟨rfl, rfl⟩
      generalize maj n = mj at *
      generalize hw1 : w.alloc (.cells (whL zeroP).toArray 43) = w1 at *
      clear eW hw1
      go_wp2_with (first | (refine wpList_load_row rfl 43 _ rfl w.heap.size rfl 43 (whL zeroP).toArray (0, 0) _ A0.out.1.2.1 Try.underlying43 rfl (SZ.out _ lz) ?_) | (refine wpList_store_row rfl 43 _ _ rfl w.heap.size (whL zeroP).toArray rfl rfl 43 _ A0.out.1.2.1 (SZ.out _ lz) rfl (all_oneCell_toArray (whL_one _)) ?_; have A1 := hid (A0.out.setRw (us := whL zeroP))))
      refine ret_wh (fn := Try.f22) (b := w.heap.size) (ps := zeroP) rfl rfl rfl A1.out.1.2.1 rfl rfl ?_
      exact ⟨rfl, A1.out.into (w0 := w) (by simp)⟩
    · have hm : ¬ maj n = 0 := by rcases fl_cases hf with rfl | rfl | rfl <;> decide
      have hm' : (maj n == 0) = false := by simpa using hm
      generalize l.length = m at *
      have h0' : ¬ m = 0 := by omega
      have h0b : ((m : Int) == 0) = false := by simpa using h0'
      have hnb : decide (n < (m : Int)) = true := decide_eq_true hn
      clear hf
      go_enter Try.func22, Try.ntmps22
      go_wp2_with fail
      refine (Majority_any n).mono ?_
      rintro e w1 ⟨rfl, rfl⟩
      generalize maj n = mj at *
      generalize hw1 : w.alloc (.cells (whL zeroP).toArray 43) = w1 at *
      clear eW hw1
      go_wp2_with (first | (refine wpList_load_row rfl 43 _ rfl w.heap.size rfl 43 (whL zeroP).toArray (0, 0) _ A0.out.1.2.1 Try.underlying43 rfl (SZ.out _ lz) ?_) | (refine wpList_store_row rfl 43 _ _ rfl w.heap.size (whL zeroP).toArray rfl rfl 43 _ A0.out.1.2.1 (SZ.out _ lz) rfl (all_oneCell_toArray (whL_one _)) ?_; have A1 := hid (A0.out.setRw (us := whL zeroP))))
      refine ret_wh (fn := Try.f22) (b := w.heap.size) (ps := zeroP) rfl rfl rfl A1.out.1.2.1 rfl rfl ?_
      exact ⟨rfl, A1.out.into (w0 := w) (by simp)⟩
  have ep : Hid (plR n (l.map Wit.who) = plV (plc n (l.map Wit.who) l.length)) := hid (by unfold plR; rw [if_pos hz, List.length_map])
  have hz2 : fl n = true ∧ 0 < l.length ∧ (l.length : Int) ≤ n := by
    simp [szd] at hz
    exact ⟨hz.1.1, by omega, by omega⟩
  obtain ⟨hf, h0, hn⟩ := hz2
  have hm : ¬ maj n = 0 := by rcases fl_cases hf with rfl | rfl | rfl <;> decide
  have hm' : (maj n == 0) = false := by simpa using hm
  have hn7 : n ≤ 7 := by rcases fl_cases hf with rfl | rfl | rfl <;> decide
  have HLL : Hid (∀ i (x : Wit), l[i]? = some x → (l.map Wit.who)[i]? = some x.who) := hid (by intro i x h; rw [List.getElem?_map, h]; rfl)
  generalize l.map Wit.who = ids at *
  generalize hlm : l.length = m at *
  have HM := hid hlm
  clear hlm hz hf
  have h0' : ¬ m = 0 := by omega
  have h0b : ((m : Int) == 0) = false := by simpa using h0'
  have hnb : decide (n < (m : Int)) = false := decide_eq_false (by omega)
  have hnb' : ¬ n < (m : Int) := by omega
  go_enter Try.func22, Try.ntmps22
  go_wp2_with fail
  refine (Majority_any n).mono ?_
  rintro e w1 ⟨rfl, rfl⟩
  generalize maj n = mj at *
  generalize hw1 : w.alloc (.cells (whL zeroP).toArray 43) = w1 at *
  generalize hKH : w.heap.size = H at *
  have HW0 := hid hKH
  clear eW hw1 hKH
  go_wp2
  clear hm hm' h0' h0b hnb hnb'
  have AZ := A0
  clear A0
  go_loopw [28] (fun iv wr => ∃ (i : Nat) (ps : List (Int × Bool)), i ≤ m ∧ iv = .int .i64 (i : Int) ∧ Hid (plc n ids i = some ps) ∧ Hid (All (blkC H (whL ps) 43 :: [inC w]) wr)) (fun iv _ => m - (intOf iv).toNat)
  case atStart => exact ⟨0, zeroP, by omega, rfl, hid rfl, AZ⟩
  case round =>
    clear AZ
    obtain ⟨i, ps, hi, rfl, PC, A0⟩ := hrel
    have lp := hid (plc_len PC.out)
    by_cases hlt : i < m
    · obtain ⟨x, hx⟩ : ∃ x, Hid (l[i]? = some x) := ⟨_, hid (List.getElem?_eq_getElem (by rw [HM.out]; exact hlt))⟩
      have BR := hid (A0.out.into (w0 := w) (by simp))
      obtain ⟨g, o, rfl, hg, x0, x1, x2⟩ := HS.out.at BR.out hx.out
      have PN := hid (plc_next PC.out (HLL.out _ _ hx.out))
      have A2 := hid (A0.out.addBlk x.cells 33)
      have hK : g ≠ wr.heap.size := by have := BR.out.size; omega
      have l1 : decide ((i : Int) < (m : Int)) = true := decide_eq_true (by omega)
      have l2 : (i : Int) < (m : Int) := by omega
      go_upto_region 6 with fail
      have eW : wr.alloc (.cells #[.int .i64 x.who, .int .i64 x.vw, .bool x.has] 33) = wr.alloc (.cells x.cells.toArray 33) := rfl
      rw [eW]
      clear eW x0 x1 x2 hK A0 BR
      generalize hw4 : wr.alloc (.cells x.cells.toArray 33) = w4 at *
      generalize hKK : wr.heap.size = K at *
      clear hw4 hKK
      obtain ⟨z0, z1, z2⟩ := Wit.blk A2.out.1.2.1
      go_wp2_with fail
      refine (who23 x).mono ?_
      rintro e w5 ⟨rfl, hb⟩
      have A5 := hid (A2.out.later hb).tail
      clear hb A2 z0 z1 z2
      generalize x.who = d at *
      go_wp2_with fail
      refine (isR_any n d).mono ?_
      rintro e w6 ⟨rfl, rfl⟩
      cases hr : isR n d with
      | false =>
        rw [hr] at PN
        have PN' : Hid (plc n ids m = none) := hid (by
          have e := plc_none (n := n) (ids := ids) (k := i + 1) (by simpa using PN.out) (m - (i + 1))
          rwa [show i + 1 + (m - (i + 1)) = m by omega] at e)
        clear PN hr
        go_wp2_with (first | (refine wpList_store_row rfl 43 _ _ rfl H (whL zeroP).toArray rfl rfl 43 _ A5.out.1.2.1 (SZ.out _ lz) (by rw [List.size_toArray, List.size_toArray, whL_len, whL_len, lp.out, lz]) (all_oneCell_toArray (whL_one _)) ?_; have A6 := hid (A5.out.setRw (us := whL zeroP))))
        refine ret_wh (fn := Try.f22) (b := H) (ps := zeroP) rfl rfl rfl A6.out.1.2.1 rfl rfl ?_
        have e := ep.out
        rw [PN'.out] at e
        rw [e]
        exact ⟨rfl, A6.out.into (w0 := w) (by simp)⟩
      | true =>
        have hdr : 0 ≤ d ∧ d < n := by simpa [isR] using hr
        obtain ⟨q, rfl⟩ : ∃ q : Nat, d = (q : Int) := ⟨d.toNat, by omega⟩
        rw [hr] at PN
        clear hr
        have hq7 : q < 7 := by omega
        obtain ⟨p, hp⟩ : ∃ p, Hid (ps[q]? = some p) := ⟨_, hid (List.getElem?_eq_getElem (by rw [lp.out]; exact hq7))⟩
        have c0 : w6.cell? ⟨H, q * 2, none⟩ = some (.int .i64 p.1) := by rw [cell_at A5.out.1.2.1, List.getElem?_toArray]; exact (whL_at hp.out).1
        have c1 : w6.cell? ⟨H, q * 2 + 1, none⟩ = some (.bool p.2) := by rw [cell_at A5.out.1.2.1, List.getElem?_toArray]; exact (whL_at hp.out).2
        have f0 : ∀ j, w6.frozen? ⟨H, j, none⟩ = false := fun j => free_at A5.out.1.2.1 j
        have q1 : (0 : Int) ≤ (q : Int) := by omega
        have q2 : (q : Int) < 7 := by omega
        have hg2 : (ps.getD (q : Int).toNat (0, false)).2 = p.2 := by simp [hp.out]
        rw [hg2] at PN
        clear hg2 hdr
        obtain ⟨p1, p2⟩ := p
        cases p2 with
        | true =>
          have PN' : Hid (plc n ids m = none) := hid (by
            have e := plc_none (n := n) (ids := ids) (k := i + 1) (by simpa using PN.out) (m - (i + 1))
            rwa [show i + 1 + (m - (i + 1)) = m by omega] at e)
          clear PN
          go_wp2_with (first | (refine wpList_store_row rfl 43 _ _ rfl H (whL zeroP).toArray rfl rfl 43 _ A5.out.1.2.1 (SZ.out _ lz) (by rw [List.size_toArray, List.size_toArray, whL_len, whL_len, lp.out, lz]) (all_oneCell_toArray (whL_one _)) ?_; have A6 := hid (A5.out.setRw (us := whL zeroP))))
          refine ret_wh (fn := Try.f22) (b := H) (ps := zeroP) rfl rfl rfl A6.out.1.2.1 rfl rfl ?_
          have e := ep.out
          rw [PN'.out] at e
          rw [e]
          exact ⟨rfl, A6.out.into (w0 := w) (by simp)⟩
        | false =>
          have A6 := hid ((A5.out.setBlk (q * 2) (.int .i64 (i : Int))).setBlk (q * 2 + 1) (.bool true))
          rw [whL_set] at A6
          have PN' : Hid (plc n ids (i + 1) = some (ps.set q ((i : Int), true))) := hid (by simpa using PN.out)
          clear PN
          go_wp2
          go_roundw
          case rel => exact ⟨i + 1, _, by omega, by go_num, PN', A6⟩
          case measure => simp [intOf]; omega
    · obtain rfl : i = m := by omega
      have l1 : decide ((i : Int) < (i : Int)) = false := decide_eq_false (by omega)
      go_wp2_with (first | (refine wpList_load_row rfl 43 _ rfl H rfl 43 (whL ps).toArray (0, 0) _ A0.out.1.2.1 Try.underlying43 rfl (SZ.out _ lp.out) ?_) | (refine wpList_store_row rfl 43 _ _ rfl H (whL ps).toArray rfl rfl 43 _ A0.out.1.2.1 (SZ.out _ lp.out) rfl (all_oneCell_toArray (whL_one _)) ?_; have A1 := hid (A0.out.setRw (us := whL ps))))
      refine ret_wh (fn := Try.f22) (b := H) (ps := ps) rfl rfl rfl A1.out.1.2.1 lp.out rfl ?_
      have e := ep.out
      rw [PC.out] at e
      rw [e]
      exact ⟨rfl, A1.out.into (w0 := w) (by simp)⟩
end Go.Proofs.Ytjnbnmlggbfodaa

import Derived.Test.YtjnbnmlggbfodaaReady
namespace Go.Proofs.Ytjnbnmlggbfodaa
open Go.RowKit
set_option linter.unusedVariables false

theorem plc_get {n : Int} {ids : List Int} (hn : n ≤ 7) : ∀ {k : Nat} {ps : List (Int × Bool)}, plc n ids k = some ps → ∀ (i d : Nat), i < k → ids[i]? = some (d : Int) → ps[d]? = some ((i : Int), true)
  | 0, ps, h, i, d, hi, hd => absurd hi (Nat.not_lt_zero _)
  | k + 1, ps, h, i, d, hi, hd => by
    unfold plc at h
    split at h
    · rename_i qs e e1 e2
      split at h
      · rename_i hc
        simp at h
        subst h
        have hl := plc_len e1
        simp only [isR, Bool.and_eq_true, decide_eq_true_eq, Bool.not_eq_true'] at hc
        obtain ⟨⟨hc1, hc2⟩, hc3⟩ := hc
        by_cases hik : i = k
        · subst hik
          rw [e2] at hd
          simp at hd
          subst hd
          rw [Int.toNat_natCast, List.getElem?_set_self (by omega)]
        · have ih := plc_get hn e1 i d (by omega) hd
          have hne : e.toNat ≠ d := by
            intro h
            rw [h, List.getD_eq_getElem?_getD, ih] at hc3
            cases hc3
          rw [List.getElem?_set_ne hne]
          exact ih
      · cases h
    · cases h
section
variable {n me fo : Int} {l : List Wit}
theorem rdR_size (hz : szd n l.length = false) : rdR n me fo l = (0, false, 120) := by
  have e : plR n (l.map Wit.who) = (zeroP, 120) := by unfold plR; rw [List.length_map, hz]; rfl
  unfold rdR
  rw [e]
  rfl
theorem rdR_bad (hz : szd n l.length = true) (h : plc n (l.map Wit.who) l.length = none) : rdR n me fo l = (0, false, 121) := by
  have e : plR n (l.map Wit.who) = (zeroP, 121) := by unfold plR; rw [List.length_map, if_pos hz, h]; rfl
  unfold rdR
  rw [e]
  rfl
theorem rdR_ok (hz : szd n l.length = true) {ps : List (Int × Bool)} (h : plc n (l.map Wit.who) l.length = some ps) : rdR n me fo l = if isR n me = false ∨ (ps.getD me.toNat (0, false)).2 = true then (0, false, 121) else rdV n fo l ps := by
  have e : plR n (l.map Wit.who) = (ps, 0) := by unfold plR; rw [List.length_map, if_pos hz, h]; rfl
  unfold rdR
  rw [e]
  rfl
theorem rdR_out (hz : szd n l.length = true) (h : isR n me = false) : rdR n me fo l = (0, false, 121) := by
  cases hp : plc n (l.map Wit.who) l.length with
  | none => exact rdR_bad hz hp
  | some ps => rw [rdR_ok hz hp, if_pos (Or.inl h)]
theorem rdR_me (hn : n ≤ 7) (hz : szd n l.length = true) (h : isR n me = true) {i : Nat} (hi : i < l.length) (hm : (l.map Wit.who)[i]? = some me) : rdR n me fo l = (0, false, 121) := by
  cases hp : plc n (l.map Wit.who) l.length with
  | none => exact rdR_bad hz hp
  | some ps =>
    simp only [isR, Bool.and_eq_true, decide_eq_true_eq] at h
    have := plc_get hn hp i me.toNat hi (by rw [Int.toNat_of_nonneg h.1]; exact hm)
    rw [rdR_ok hz hp, if_pos (Or.inr (by rw [List.getD_eq_getElem?_getD, this]; rfl))]
theorem rdR_good (hn : n ≤ 7) (hz : szd n l.length = true) (h : isR n me = true) {ps : List (Int × Bool)} (hp : plc n (l.map Wit.who) l.length = some ps) (hno : ∀ i, i < l.length → (l.map Wit.who)[i]? ≠ some me) : rdR n me fo l = rdV n fo l ps := by
  simp only [isR, Bool.and_eq_true, decide_eq_true_eq] at h
  rw [rdR_ok hz hp, if_neg]
  rintro (e | e)
  · simp [isR] at e; omega
  · obtain ⟨j, h1, h2⟩ := (plc_mem hn hp me.toNat (by omega)).1 e
    rw [Int.toNat_of_nonneg h.1] at h2
    exact hno j h1 h2
theorem rdV_low {ps : List (Int × Bool)} (h : (l.length : Int) < maj n ∨ vwA l l.length < 0 ∨ vwA l l.length < fo) : rdV n fo l ps = (0, false, 0) := by unfold rdV; rw [if_pos h]
theorem rdV_yes (hn : n ≤ 7) (hn3 : 3 ≤ n) {ps : List (Int × Bool)} (hp : plc n (l.map Wit.who) l.length = some ps) (h : ¬ ((l.length : Int) < maj n ∨ vwA l l.length < 0 ∨ vwA l l.length < fo)) {i : Nat} {x : Wit} (hx : l[i]? = some x) (h1 : x.who = vwA l l.length % n) (h2 : x.vw = vwA l l.length) (h3 : x.has = true) : rdV n fo l ps = ((i : Int), true, 0) := by
  have hi := (List.getElem?_eq_some_iff.1 hx).1
  have hu := Int.emod_nonneg (vwA l l.length) (b := n) (by omega)
  have := plc_get hn hp i (vwA l l.length % n).toNat hi (by rw [Int.toNat_of_nonneg hu, List.getElem?_map, hx, ← h1]; rfl)
  unfold rdV
  have hg : ps.getD (vwA l l.length % n).toNat (0, false) = ((i : Int), true) := by rw [List.getD_eq_getElem?_getD, this]; rfl
  rw [if_neg h, hg, if_pos]
  have hg2 : l.getD (i : Int).toNat Wit.zero = x := by rw [Int.toNat_natCast, List.getD_eq_getElem?_getD, hx]; rfl
  exact ⟨rfl, by rw [hg2, h2], by rw [hg2, h3]⟩
theorem rdV_no (hn : n ≤ 7) (hn3 : 3 ≤ n) {ps : List (Int × Bool)} (hp : plc n (l.map Wit.who) l.length = some ps) (hno : ∀ i x, i < l.length → l[i]? = some x → ¬ (x.who = vwA l l.length % n ∧ x.vw = vwA l l.length ∧ x.has = true)) : rdV n fo l ps = (0, false, 0) := by
  unfold rdV
  split
  · rfl
  · rw [if_neg]
    rintro ⟨h1, h2, h3⟩
    have hu := Int.emod_nonneg (vwA l l.length) (b := n) (by omega)
    have hu2 := Int.emod_lt_of_pos (vwA l l.length) (b := n) (by omega)
    have hlp := plc_len hp
    obtain ⟨p, hpp⟩ : ∃ p, ps[(vwA l l.length % n).toNat]? = some p := ⟨_, List.getElem?_eq_getElem (by omega)⟩
    have hg : ps.getD (vwA l l.length % n).toNat (0, false) = p := by rw [List.getD_eq_getElem?_getD, hpp]; rfl
    rw [hg] at h1 h2 h3
    obtain ⟨a, b⟩ := p
    simp only at h1
    subst h1
    obtain ⟨i, hi, rfl, hid⟩ := plc_pos hn hp _ _ hpp
    obtain ⟨x, hx⟩ : ∃ x, l[i]? = some x := ⟨_, List.getElem?_eq_getElem hi⟩
    have hg2 : l.getD (i : Int).toNat Wit.zero = x := by rw [Int.toNat_natCast, List.getD_eq_getElem?_getD, hx]; rfl
    simp only [hg2] at h2 h3
    refine hno i x hi hx ⟨?_, h2, h3⟩
    rw [List.getElem?_map, hx, Int.toNat_of_nonneg hu] at hid
    simpa using hid
end

set_option maxHeartbeats 3200000 in
set_option maxRecDepth 1000000 in
theorem RReady_any {w : World} {s : Value} {l : List Wit} (hs : WitsAt w s l) (hl : l.length ≤ 9223372036854775807) (n me fo : Int) : Calls Try.prog 11 #[.int .i64 n, .int .i64 me, .int .i64 fo, s] w fun e w' => e = .returned (V3b (rdR n me fo l)) ∧ Below w.heap.size w w' := by
  have HS := hid hs
  obtain ⟨ao, c, rfl⟩ := hs.form
  have hcap := (hs.cap).1
  clear hs
  have C1 := hid (fun w => sized_any (w := w) n (l.length : Int))
  cases hz : szd n l.length with
  | false =>
    rw [rdR_size hz]
    rw [hz] at C1
    clear hz
    go_enter Try.func11, Try.ntmps11
    go_wp2_with fail
    refine (C1.out _).mono ?_
    rintro e w1 ⟨rfl, rfl⟩
    go_wp2
    go_ret3
    exact ⟨rfl, Below.refl _ _⟩
  | true =>
    obtain ⟨h0, h7, hmn, hf⟩ := szd_few hz
    have hn7 : n ≤ 7 := by rcases fl_cases hf with rfl | rfl | rfl <;> decide
    have hn3 : 3 ≤ n := by rcases fl_cases hf with rfl | rfl | rfl <;> decide
    obtain ⟨f, hqf, hmf, hf1, hf2⟩ : ∃ f : Int, (n - 1).tdiv 2 = f ∧ maj n = f + 1 ∧ 0 ≤ f ∧ f ≤ 7 := by rcases fl_cases hf with rfl | rfl | rfl <;> exact ⟨_, rfl, by decide, by decide, by decide⟩
    rw [hz] at C1
    cases hr : isR n me with
    | false =>
      rw [rdR_out hz hr]
      have hr' : me < 0 ∨ (¬ me < 0 ∧ n ≤ me) := by simp [isR] at hr; omega
      clear hz hr hf hqf hmf
      rcases hr' with h | ⟨h, h2⟩
      · have hb : decide (me < 0) = true := decide_eq_true h
        go_enter Try.func11, Try.ntmps11
        go_wp2_with fail
        refine (C1.out _).mono ?_
        rintro e w1 ⟨rfl, rfl⟩
        go_wp2
        go_ret3
        exact ⟨rfl, Below.refl _ _⟩
      · have hb : decide (me < 0) = false := decide_eq_false h
        have hb2 : decide (n ≤ me) = true := decide_eq_true h2
        go_enter Try.func11, Try.ntmps11
        go_wp2_with fail
        refine (C1.out _).mono ?_
        rintro e w1 ⟨rfl, rfl⟩
        go_wp2
        go_ret3
        exact ⟨rfl, Below.refl _ _⟩
    | true =>
    have hme : 0 ≤ me ∧ me < n := by simpa [isR] using hr
    have EB := hid (rdR_bad (n := n) (me := me) (fo := fo) (l := l) hz)
    have EM := hid (fun i => rdR_me (n := n) (me := me) (fo := fo) (l := l) hn7 hz hr (i := i))
    have EG := hid (fun ps => rdR_good (n := n) (me := me) (fo := fo) (l := l) hn7 hz hr (ps := ps))
    have VL := hid (fun ps => rdV_low (n := n) (fo := fo) (l := l) (ps := ps))
    have VY := hid (fun ps hp h (i : Nat) (x : Wit) hx => rdV_yes (n := n) (fo := fo) (l := l) hn7 hn3 (ps := ps) hp h (i := i) (x := x) hx)
    have VN := hid (fun ps => rdV_no (n := n) (fo := fo) (l := l) hn7 hn3 (ps := ps))
    have HMF := hid hmf
    have N3 := hid (fl_cases hf)
    have HLL : Hid (∀ i (x : Wit), l[i]? = some x → (l.map Wit.who)[i]? = some x.who) := hid (by intro i x h; rw [List.getElem?_map, h]; rfl)
    have HLN : Hid (∀ i, i < l.length → ∃ x, Hid (l[i]? = some x)) := hid (fun i h => ⟨_, hid (List.getElem?_eq_getElem h)⟩)
    generalize l.map Wit.who = ids at *
    generalize hR : rdR n me fo l = R at *
    generalize hlm : l.length = m at *
    clear hz hf hR hlm hr hmf
    have me1 : decide (me < 0) = false := decide_eq_false (by omega)
    have me2 : decide (n ≤ me) = false := decide_eq_false (by omega)
    have me3 : ¬ me < 0 := by omega
    have me4 : ¬ n ≤ me := by omega
    obtain ⟨xx, hx⟩ := HLN.out 0 h0
    obtain ⟨g, o, rfl, hg, x0, x1, x2⟩ := HS.out.at (Below.refl _ _) hx.out
    rw [Nat.zero_mul, Nat.add_zero] at x0 x1 x2
    have i0 : (0 : Int) < (m : Int) := by omega
    have HC : Hid (xx.vw = vwA l 0) := hid (by
      have e := hx.out
      show xx.vw = (l.getD 0 Wit.zero).vw
      rw [List.getD_eq_getElem?_getD, e]; rfl)
    go_enter Try.func11, Try.ntmps11
    go_wp2_with fail
    refine (C1.out _).mono ?_
    rintro e w1 ⟨rfl, rfl⟩
    go_wp2
    clear C1 x0 x1 x2 me1 me2 me3 me4 hqf
    go_loopw [11, 36] (fun uv iv wr => ∃ (i : Nat) (ps : List (Int × Bool)), i ≤ m ∧ iv = .int .i64 (i : Int) ∧ uv = .int .i64 (vwA l i) ∧ Hid (plc n ids i = some ps) ∧ Hid (∀ q, q < i → ids[q]? ≠ some me) ∧ Hid (Below w1.heap.size w1 wr)) (fun _ iv _ => m - (intOf iv).toNat)
    case atStart => exact ⟨0, zeroP, by omega, rfl, by rw [HC.out], hid rfl, hid (fun q hq => absurd hq (Nat.not_lt_zero _)), hid (Below.refl _ _)⟩
    case round =>
      clear HC hx
      obtain ⟨i, ps, hi, rfl, rfl, PC, NM, BR⟩ := hrel
      by_cases hlt : i < m
      · obtain ⟨x, hx⟩ := HLN.out i hlt
        obtain ⟨g', o', eg, hg', x0, x1, x2⟩ := HS.out.at BR.out hx.out
        cases eg
        have hxi := hid (HLL.out _ _ hx.out)
        have hcl : fsA vwW l i < m := fsA_lt _ _ h0 hi
        obtain ⟨z, hz⟩ := HLN.out _ hcl
        have HN2 : Hid (vwA l (i + 1) = if z.vw < x.vw then x.vw else z.vw) := hid (by
          unfold vwA
          rw [fsA_next hx.out hz.out, show vwW x z = decide (z.vw < x.vw) from rfl]
          by_cases h : z.vw < x.vw
          · rw [decide_eq_true h, if_pos rfl, if_pos h, List.getD_eq_getElem?_getD, hx.out]; rfl
          · rw [decide_eq_false h, if_neg (by simp), if_neg h, List.getD_eq_getElem?_getD, hz.out]; rfl)
        have HZ : Hid (vwA l i = z.vw) := hid (by unfold vwA; rw [List.getD_eq_getElem?_getD, hz.out]; rfl)
        rw [HZ.out]
        clear HZ hcl hz
        generalize z.vw = zv at *
        have A2 := hid (((All.came w1).later BR.out).addBlk x.cells 33)
        have hK : g ≠ wr.heap.size := by have := BR.out.size; omega
        have l1 : decide ((i : Int) < (m : Int)) = true := decide_eq_true (by omega)
        have l2 : (i : Int) < (m : Int) := by omega
        go_upto_region 9 with fail
        have eW : wr.alloc (.cells #[.int .i64 x.who, .int .i64 x.vw, .bool x.has] 33) = wr.alloc (.cells x.cells.toArray 33) := rfl
        rw [eW]
        clear eW x0 x1 x2 hK BR
        generalize hw4 : wr.alloc (.cells x.cells.toArray 33) = w4 at *
        generalize hKK : wr.heap.size = K at *
        clear hw4 hKK
        obtain ⟨z0, z1, z2⟩ := Wit.blk A2.out.1.2.1
        by_cases r0 : x.who < 0
        · have r0b : decide (x.who < 0) = true := decide_eq_true r0
          go_wp2
          go_ret3
          rw [EB.out (plc_out PC.out hxi.out (by simp [isR]; omega) hlt)]
          exact ⟨rfl, A2.out.into (w0 := w1) (by simp)⟩
        have r0b : decide (x.who < 0) = false := decide_eq_false r0
        by_cases r1 : n ≤ x.who
        · have r1b : decide (n ≤ x.who) = true := decide_eq_true r1
          go_wp2
          go_ret3
          rw [EB.out (plc_out PC.out hxi.out (by simp [isR]; omega) hlt)]
          exact ⟨rfl, A2.out.into (w0 := w1) (by simp)⟩
        have r1b : decide (n ≤ x.who) = false := decide_eq_false r1
        by_cases r2 : x.who = me
        · have r2b : (x.who == me) = true := by simpa using r2
          have EM' := hid (EM.out i hlt (by rw [← r2]; exact hxi.out))
          have r2 := hid r2
          go_wp2
          go_ret3
          rw [EM'.out]
          exact ⟨rfl, A2.out.into (w0 := w1) (by simp)⟩
        have r2b : (x.who == me) = false := by simpa using r2
        have NM' : Hid (∀ q, q < i + 1 → ids[q]? ≠ some me) := hid (fun q hq => by
          rcases Nat.lt_or_ge q i with h | h
          · exact NM.out q h
          · obtain rfl : q = i := by omega
            rw [hxi.out]
            simpa using r2)
        have l3 : (i : Int) ≤ (c : Int) := by omega
        have l4 : (0 : Int) ≤ (i : Int) := by omega
        go_wp2
        clear z0 z1 z2
        go_loopw [60] (fun jv wr => ∃ (j : Nat), j ≤ i ∧ jv = .int .i64 (j : Int) ∧ Hid (∀ q, q < j → ids[q]? ≠ some x.who) ∧ Hid (All [blkC K x.cells 33, inC w1] wr)) (fun jv _ => i - (intOf jv).toNat)
        case atStart => exact ⟨0, by omega, rfl, hid (fun q hq => absurd hq (Nat.not_lt_zero _)), A2⟩
        case round =>
          clear A2
          obtain ⟨j, hj, rfl, HNO, A2⟩ := hrel
          by_cases hji : j < i
          · obtain ⟨y, hy⟩ := HLN.out j (by omega)
            have BR := hid (A2.out.into (w0 := w1) (by simp))
            obtain ⟨g', o', eg, hg', y0, y1, y2⟩ := HS.out.at BR.out hy.out
            cases eg
            have hyi := hid (HLL.out _ _ hy.out)
            have A3 := hid (A2.out.addBlk y.cells 33)
            have hK : g ≠ wr.heap.size := by have := BR.out.size; omega
            have k1 : decide ((j : Int) < (i : Int)) = true := decide_eq_true (by omega)
            have k2 : (j : Int) < (i : Int) := by omega
            go_upto_region 14 with fail
            have eW : wr.alloc (.cells #[.int .i64 y.who, .int .i64 y.vw, .bool y.has] 33) = wr.alloc (.cells y.cells.toArray 33) := rfl
            rw [eW]
            clear eW y0 y1 y2 hK BR A2
            generalize hw5 : wr.alloc (.cells y.cells.toArray 33) = w5 at *
            generalize hKK : wr.heap.size = K2 at *
            clear hw5 hKK
            obtain ⟨z0, _, _⟩ := Wit.blk A3.out.1.2.1
            obtain ⟨u0, _, _⟩ := Wit.blk A3.out.tail.1.2.1
            by_cases he : y.who = x.who
            · have heb : (y.who == x.who) = true := by simpa using he
              have PN := hid (EB.out (plc_twice hn7 PC.out hxi.out (by omega) (by omega) hji (by rw [← he]; exact hyi.out) hlt))
              clear he
              go_wp2
              go_ret3
              rw [PN.out]
              exact ⟨rfl, A3.out.into (w0 := w1) (by simp)⟩
            · have heb : (y.who == x.who) = false := by simpa using he
              have HNO' : Hid (∀ q, q < j + 1 → ids[q]? ≠ some x.who) := hid (fun q hq => by
                rcases Nat.lt_or_ge q j with h | h
                · exact HNO.out q h
                · obtain rfl : q = j := by omega
                  rw [hyi.out]
                  simpa using he)
              go_wp2
              go_roundw
              case rel => exact ⟨j + 1, by omega, by go_num, HNO', hid A3.out.tail⟩
              case measure => simp [intOf]; omega
          · obtain rfl : j = i := by omega
            have k1 : decide ((j : Int) < (j : Int)) = false := decide_eq_false (by omega)
            obtain ⟨qs, hqs⟩ := plc_more hn7 PC.out hxi.out (by omega) (by omega) HNO.out
            have hqs := hid hqs
            obtain ⟨z0, z1, z2⟩ := Wit.blk A2.out.1.2.1
            by_cases hv : zv < x.vw
            · have hvb : decide (zv < x.vw) = true := decide_eq_true hv
              have HN3 : Hid (vwA l (j + 1) = x.vw) := hid (by rw [HN2.out, if_pos hv])
              go_wp2
              go_roundw
              case rel => exact ⟨j + 1, qs, by omega, by go_num, by rw [HN3.out], hqs, NM', hid (A2.out.into (w0 := w1) (by simp))⟩
              case measure => simp [intOf]; omega
            · have hvb : decide (zv < x.vw) = false := decide_eq_false hv
              have HN3 : Hid (vwA l (j + 1) = zv) := hid (by rw [HN2.out, if_neg hv])
              go_wp2
              go_roundw
              case rel => exact ⟨j + 1, qs, by omega, by go_num, by rw [HN3.out], hqs, NM', hid (A2.out.into (w0 := w1) (by simp))⟩
              case measure => simp [intOf]; omega
      · obtain rfl : i = m := by omega
        have l1 : decide ((i : Int) < (i : Int)) = false := decide_eq_false (by omega)
        have EGR := hid (EG.out _ PC.out NM.out)
        have VL' := hid (VL.out ps)
        have VY' := hid (fun h => VY.out ps PC.out h)
        have VN' := hid (VN.out ps PC.out)
        rw [HMF.out] at VL' VY'
        have hqf : (n - 1).tdiv 2 = f := by have := HMF.out; have h3 : n = 3 ∨ n = 5 ∨ n = 7 := N3.out; rcases h3 with rfl | rfl | rfl <;> (simp [maj, fl] at this ⊢; omega)
        clear EG EB EM PC VL VY VN NM
        generalize rdV n fo l ps = RV at *
        generalize vwA l i = v at *
        by_cases t1 : (i : Int) < f + 1
        · have t1b : decide ((i : Int) < f + 1) = true := decide_eq_true t1
          go_wp2
          go_ret3
          rw [EGR.out, VL'.out (Or.inl t1)]
          exact ⟨rfl, BR.out⟩
        have t1b : decide ((i : Int) < f + 1) = false := decide_eq_false t1
        by_cases t2 : v < 0
        · have t2b : decide (v < 0) = true := decide_eq_true t2
          go_wp2
          go_ret3
          rw [EGR.out, VL'.out (Or.inr (Or.inl t2))]
          exact ⟨rfl, BR.out⟩
        have t2b : decide (v < 0) = false := decide_eq_false t2
        by_cases t3 : v < fo
        · have t3b : decide (v < fo) = true := decide_eq_true t3
          go_wp2
          go_ret3
          rw [EGR.out, VL'.out (Or.inr (Or.inr t3))]
          exact ⟨rfl, BR.out⟩
        have t3b : decide (v < fo) = false := decide_eq_false t3
        have VY2 := hid (VY'.out (by omega))
        clear VL' VY'
        go_wp2
        clear t1b t2b t3b hqf t1 t3
        have hnn : ¬ n = 0 := by omega
        have hmt : v.tmod n = v % n := Int.tmod_eq_emod_of_nonneg (by omega)
        rw [← hmt] at VY2 VN'
        have rb1 := Int.emod_nonneg v hnn
        have rb2 := Int.emod_lt_of_pos v (b := n) (by omega)
        rw [← hmt] at rb1 rb2
        clear hmt
        generalize hrm : v.tmod n = r at *
        go_loopw [95] (fun jv wr => ∃ (j : Nat), j ≤ i ∧ jv = .int .i64 (j : Int) ∧ Hid (∀ q x, q < j → l[q]? = some x → ¬ (x.who = r ∧ x.vw = v ∧ x.has = true)) ∧ Hid (Below w1.heap.size w1 wr)) (fun jv _ => i - (intOf jv).toNat)
        case atStart => exact ⟨0, by omega, rfl, hid (fun q _ hq => absurd hq (Nat.not_lt_zero _)), BR⟩
        case round =>
          clear BR
          obtain ⟨j, hj, rfl, HNO, BR⟩ := hrel
          by_cases hji : j < i
          · obtain ⟨x, hx⟩ := HLN.out j hji
            obtain ⟨g', o', eg, hg', x0, x1, x2⟩ := HS.out.at BR.out hx.out
            cases eg
            have A2 := hid (((All.came w1).later BR.out).addBlk x.cells 33)
            have hK : g ≠ wr.heap.size := by have := BR.out.size; omega
            have k1 : decide ((j : Int) < (i : Int)) = true := decide_eq_true (by omega)
            have k2 : (j : Int) < (i : Int) := by omega
            go_upto_region 25 with fail
            have eW : wr.alloc (.cells #[.int .i64 x.who, .int .i64 x.vw, .bool x.has] 33) = wr.alloc (.cells x.cells.toArray 33) := rfl
            rw [eW]
            clear eW x0 x1 x2 hK BR
            generalize hw4 : wr.alloc (.cells x.cells.toArray 33) = w4 at *
            generalize hKK : wr.heap.size = K at *
            clear hw4 hKK
            obtain ⟨z0, z1, z2⟩ := Wit.blk A2.out.1.2.1
            have B4 := hid (A2.out.into (w0 := w1) (by simp))
            have NO' : Hid (¬ (x.who = r ∧ x.vw = v ∧ x.has = true) → ∀ q x, q < j + 1 → l[q]? = some x → ¬ (x.who = r ∧ x.vw = v ∧ x.has = true)) := hid (fun hn q x' hq hx' => by
              rcases Nat.lt_or_ge q j with h | h
              · exact HNO.out q x' h hx'
              · obtain rfl : q = j := by omega
                rw [hx.out] at hx'
                simp at hx'
                subst hx'
                exact hn)
            have VY3 := hid (fun h1 h2 h3 => VY2.out j x hx.out h1 h2 h3)
            clear HNO VY2 hx
            generalize x.who = xw at *
            generalize x.vw = xv at *
            generalize x.has = xh at *
            by_cases s1 : xw = r
            · have s1b : (xw == r) = true := by simpa using s1
              by_cases s2 : xv = v
              · have s2b : (xv == v) = true := by simpa using s2
                cases xh with
                | true =>
                  have E := hid (VY3.out s1 s2 rfl)
                  clear VY3 NO' s1 s2
                  go_quiet (fail)
                  go_wp2
                  go_ret3
                  rw [EGR.out, E.out]
                  exact ⟨rfl, B4.out.trans ((bdN w4 nq).mono B4.out.size)⟩
                | false =>
                  have E := hid (NO'.out (by simp))
                  clear VY3 NO' s1 s2
                  go_quiet (fail)
                  go_wp2
                  go_roundw
                  case rel => exact ⟨j + 1, by omega, by go_num, E, hid (B4.out.trans ((bdN w4 nq).mono B4.out.size))⟩
                  case measure => simp [intOf]; omega
              · have s2b : (xv == v) = false := by simpa using s2
                have E := hid (NO'.out (fun h => s2 h.2.1))
                clear VY3 NO' s1
                go_quiet (fail)
                go_wp2
                go_roundw
                case rel => exact ⟨j + 1, by omega, by go_num, E, hid (B4.out.trans ((bdN w4 nq).mono B4.out.size))⟩
                case measure => simp [intOf]; omega
            · have s1b : (xw == r) = false := by simpa using s1
              have E := hid (NO'.out (fun h => s1 h.1))
              clear VY3 NO'
              go_quiet (fail)
              go_wp2
              go_roundw
              case rel => exact ⟨j + 1, by omega, by go_num, E, hid (B4.out.trans ((bdN w4 nq).mono B4.out.size))⟩
              case measure => simp [intOf]; omega
          · obtain rfl : j = i := by omega
            have k1 : decide ((j : Int) < (j : Int)) = false := decide_eq_false (by omega)
            have VN2 := hid (VN'.out HNO.out)
            go_wp2
            go_ret3
            rw [EGR.out, VN2.out]
            exact ⟨rfl, BR.out⟩
end Go.Proofs.Ytjnbnmlggbfodaa

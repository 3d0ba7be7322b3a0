import Derived.Test.YtjnbnmlggbfodaaRBest
namespace Go.Proofs.Ytjnbnmlggbfodaa
open Go.RowKit
set_option linter.unusedVariables false

/-- Where one stands that stands there. -/
theorem plc_pos {n : Int} {ids : List Int} (hn : n ≤ 7) : ∀ {k : Nat} {ps : List (Int × Bool)}, plc n ids k = some ps → ∀ (d : Nat) (a : Int), ps[d]? = some (a, true) → ∃ i : Nat, i < k ∧ a = (i : Int) ∧ ids[i]? = some (d : Int)
  | 0, ps, h, d, a, hd => by
    simp [plc] at h
    subst h
    have h7 := (List.getElem?_eq_some_iff.1 hd).1
    have h7 : d < 7 := h7
    have : d = 0 ∨ d = 1 ∨ d = 2 ∨ d = 3 ∨ d = 4 ∨ d = 5 ∨ d = 6 := by omega
    rcases this with rfl | rfl | rfl | rfl | rfl | rfl | rfl <;> cases hd
  | k + 1, ps, h, d, a, hd => by
    unfold plc at h
    split at h
    · rename_i qs e e1 e2
      split at h
      · rename_i hc
        simp at h
        subst h
        have hl := plc_len e1
        simp [isR] at hc
        obtain ⟨⟨hc1, hc2⟩, hc3⟩ := hc
        clear hc3
        by_cases hde : e.toNat = d
        · subst hde
          rw [List.getElem?_set_self (by omega)] at hd
          simp at hd
          subst hd
          exact ⟨k, by omega, rfl, by rw [e2, Int.toNat_of_nonneg hc1]⟩
        · rw [List.getElem?_set_ne hde] at hd
          obtain ⟨i, h1, h2, h3⟩ := plc_pos hn e1 d a hd
          exact ⟨i, by omega, h2, h3⟩
      · cases h
    · cases h
def vwA (l : List Wit) (k : Nat) : Int := (l.getD (fsA vwW l k) Wit.zero).vw
/-- Whom one believes. -/
def rdV (n fo : Int) (l : List Wit) (ps : List (Int × Bool)) : Int × Bool × Int :=
  if (l.length : Int) < maj n ∨ vwA l l.length < 0 ∨ vwA l l.length < fo then (0, false, 0)
  else if (ps.getD (vwA l l.length % n).toNat (0, false)).2 = true ∧ (l.getD (ps.getD (vwA l l.length % n).toNat (0, false)).1.toNat Wit.zero).vw = vwA l l.length ∧ (l.getD (ps.getD (vwA l l.length % n).toNat (0, false)).1.toNat Wit.zero).has = true then ((ps.getD (vwA l l.length % n).toNat (0, false)).1, true, 0)
  else (0, false, 0)
def rdR (n me fo : Int) (l : List Wit) : Int × Bool × Int :=
  if (plR n (l.map Wit.who)).2 = 0 then (if isR n me = false ∨ ((plR n (l.map Wit.who)).1.getD me.toNat (0, false)).2 = true then (0, false, 121) else rdV n fo l (plR n (l.map Wit.who)).1) else (0, false, (plR n (l.map Wit.who)).2)
abbrev V3b (r : Int × Bool × Int) : Value := .tuple #[.int .i64 r.1, .bool r.2.1, .int .i64 r.2.2]

set_option maxHeartbeats 3200000 in
set_option maxRecDepth 1000000 in
theorem Ready_any {w : World} {s : Value} {l : List Wit} (hs : WitsAt w s l) (hl : l.length ≤ 9223372036854775807) (n me fo : Int) : Calls Try.prog 10 #[.int .i64 n, .int .i64 me, .int .i64 fo, s] w fun e w' => e = .returned (V3b (rdR n me fo l)) ∧ Below w.heap.size w w' := by
  have C1 := hid (places22 hs hl n)
  have HS := hid hs
  obtain ⟨ao, c, rfl⟩ := hs.form
  clear hs
  have eW : ∀ w : World, (w.alloc (.cells #[.int .i64 0, .bool false, .int .i64 0, .bool false, .int .i64 0, .bool false, .int .i64 0, .bool false, .int .i64 0, .bool false, .int .i64 0, .bool false, .int .i64 0, .bool false] 43)) = w.alloc (.cells (whL zeroP).toArray 43) := fun _ => rfl
  have lz : zeroP.length = 7 := rfl
  have SZ : Hid (∀ ps : List (Int × Bool), ps.length = 7 → (Try.prog.info? 43).map (·.size) = some (whL ps).toArray.size) := hid (fun ps h => by rw [List.size_toArray, whL_len, h]; exact size43)
  rcases plR_cases n (l.map Wit.who) with ⟨ps, hp, hz, hpc⟩ | hp | hp
  · have hf := szd_few hz
    rw [List.length_map] at hf hpc
    obtain ⟨h0, h7, hmn, hfl⟩ := hf
    have hn7 : n ≤ 7 := by rcases fl_cases hfl with rfl | rfl | rfl <;> decide
    have hn3 : 3 ≤ n := by rcases fl_cases hfl with rfl | rfl | rfl <;> decide
    have lp := plc_len hpc
    have eb : Hid (rdR n me fo l = if isR n me = false ∨ (ps.getD me.toNat (0, false)).2 = true then (0, false, 121) else rdV n fo l ps) := hid (by simp [rdR, hp])
    rw [hp] at C1
    have PP := hid (plc_pos hn7 hpc)
    have HLL : Hid (∀ i (x : Wit), l[i]? = some x → (l.map Wit.who)[i]? = some x.who) := hid (by intro i x h; rw [List.getElem?_map, h]; rfl)
    have HLN : Hid (∀ i, i < l.length → ∃ x, Hid (l[i]? = some x)) := hid (fun i h => ⟨_, hid (List.getElem?_eq_getElem h)⟩)
    have F1 := hid (fun w1 (b : Below w.heap.size w w1) => vw26_first (HS.out.later b) h0 h7)
    have hc : fsA vwW l l.length < l.length := fsA_lt _ _ h0 (Nat.le_refl _)
    obtain ⟨y, hy⟩ := HLN.out _ hc
    have ev : vwA l l.length = y.vw := by unfold vwA; rw [List.getD_eq_getElem?_getD, hy.out]; rfl
    have ER : Hid (rdV n fo l ps = if (l.length : Int) < maj n ∨ y.vw < 0 ∨ y.vw < fo then (0, false, 0)
      else if (ps.getD (y.vw % n).toNat (0, false)).2 = true ∧ (l.getD (ps.getD (y.vw % n).toNat (0, false)).1.toNat Wit.zero).vw = y.vw ∧ (l.getD (ps.getD (y.vw % n).toNat (0, false)).1.toNat Wit.zero).has = true then ((ps.getD (y.vw % n).toNat (0, false)).1, true, 0)
      else (0, false, 0)) := hid (by unfold rdV; rw [ev])
    have PRI := hid (fun h : ¬ y.vw < 0 => pri_pos (n := n) (v := y.vw) hfl h)
    clear ev hp hpc hz
    have LP := hid lp
    generalize hR : rdR n me fo l = R at *
    generalize fsA vwW l l.length = fc at *
    generalize rdV n fo l ps = RV at *
    generalize hm : l.length = m at *
    generalize hfl' : maj n = mj at *
    have HMJ := hid hfl'
    clear hR hm hl lp hfl' hfl
    go_enter Try.func10, Try.ntmps10
    go_wp2_with fail
    refine C1.out.mono ?_
    rintro e w1 ⟨rfl, b1⟩
    have A1 : Hid (All (blkC w1.heap.size (whL ps) 43 :: [inC w]) ((w1.alloc (.cells (whL zeroP).toArray 43)).setRow w1.heap.size (whL ps).toArray)) := hid ((((All.came w).later b1).addBlk (whL zeroP) 43).setRw)
    have HB1 := hid b1.size
    clear C1 b1
    go_upto_region 2 with (first | (refine wpList_store_row rfl 43 _ _ rfl w1.heap.size (whL ps).toArray rfl rfl 43 _ (heap_alloc_new _ _) (SZ.out _ LP.out) (by rw [List.size_toArray, List.size_toArray, whL_len, whL_len, LP.out, lz]) (all_oneCell_toArray (whL_one _)) ?_))
    generalize hw2 : ((w1.alloc (.cells (whL zeroP).toArray 43)).setRow w1.heap.size (whL ps).toArray) = w2 at *
    generalize hKK : w1.heap.size = K at *
    clear hw2 hKK eW
    go_wp2_with fail
    refine (isR_any n me).mono ?_
    rintro e w3 ⟨rfl, rfl⟩
    have KG : K ≠ K + 1 := by omega
    cases hr : isR n me with
    | false =>
      rw [hr] at eb
      clear hr
      go_wp2
      go_ret3
      rw [eb.out]
      exact ⟨rfl, A1.out.into (w0 := w) (by simp)⟩
    | true =>
      have hdr : 0 ≤ me ∧ me < n := by simpa [isR] using hr
      obtain ⟨q, rfl⟩ : ∃ q : Nat, me = (q : Int) := ⟨me.toNat, by omega⟩
      rw [hr] at eb
      clear hr
      have hq7 : q < 7 := by omega
      obtain ⟨p, hp⟩ : ∃ p, Hid (ps[q]? = some p) := ⟨_, hid (List.getElem?_eq_getElem (by rw [LP.out]; exact hq7))⟩
      have c1 : w3.cell? ⟨K, q * 2 + 1, none⟩ = some (.bool p.2) := by rw [cell_at A1.out.1.2.1, List.getElem?_toArray]; exact (whL_at hp.out).2
      have q1 : (0 : Int) ≤ (q : Int) := by omega
      have q2 : (q : Int) < 7 := by omega
      have hg2 : (ps.getD (q : Int).toNat (0, false)).2 = p.2 := by simp [hp.out]
      rw [hg2] at eb
      clear hg2 hdr hp
      obtain ⟨p1, p2⟩ := p
      cases p2 with
      | true =>
        go_wp2
        go_ret3
        rw [eb.out]
        exact ⟨rfl, A1.out.into (w0 := w) (by simp)⟩
      | false =>
        have EB2 : Hid (R = RV) := hid (by rw [eb.out]; simp)
        clear eb
        have B1 := A1.out.into (w0 := w) (by simp)
        go_wp2_with fail
        refine (F1.out _ B1).mono ?_
        rintro e w4 ⟨rfl, b4⟩
        have A4 := hid (A1.out.later b4)
        clear b4 B1 c1 A1 F1
        have B4 := hid (A4.out.into (w0 := w) (by simp))
        obtain ⟨g, o, rfl, hg, y0, y1, y2⟩ := HS.out.at B4.out hy.out
        have a1 : (0 : Int) ≤ (fc : Int) := by omega
        have a2 : (fc : Int) < (m : Int) := by omega
        go_wp2_with fail
        refine (Majority_any n).mono ?_
        rintro e w5 ⟨rfl, rfl⟩
        rw [HMJ.out]
        clear y0 y1 y2
        generalize hv : y.vw = v at *
        have HV := hid hv
        clear hv
        by_cases t1 : (m : Int) < mj
        · have t1b : decide ((m : Int) < mj) = true := decide_eq_true t1
          go_wp2
          go_ret3
          rw [EB2.out, ER.out, if_pos (Or.inl t1)]
          exact ⟨rfl, B4.out⟩
        have t1b : decide ((m : Int) < mj) = false := decide_eq_false t1
        by_cases t2 : v < 0
        · have t2b : decide (v < 0) = true := decide_eq_true t2
          go_wp2
          go_ret3
          rw [EB2.out, ER.out, if_pos (Or.inr (Or.inl t2))]
          exact ⟨rfl, B4.out⟩
        have t2b : decide (v < 0) = false := decide_eq_false t2
        by_cases t3 : v < fo
        · have t3b : decide (v < fo) = true := decide_eq_true t3
          go_wp2
          go_ret3
          rw [EB2.out, ER.out, if_pos (Or.inr (Or.inr t3))]
          exact ⟨rfl, B4.out⟩
        have t3b : decide (v < fo) = false := decide_eq_false t3
        have ER2 := ER.out
        rw [if_neg (by omega)] at ER2
        have ER2 := hid ER2
        clear ER
        go_wp2_with fail
        refine (Primary_any n v).mono ?_
        rintro e w6 ⟨rfl, rfl⟩
        rw [PRI.out t2]
        clear PRI t1 t1b t2b t3 t3b
        have u1 := Int.emod_nonneg v (b := n) (by omega)
        have u2 := Int.emod_lt_of_pos v (b := n) (by omega)
        obtain ⟨u, hu⟩ : ∃ u : Nat, v % n = (u : Int) := ⟨(v % n).toNat, by omega⟩
        rw [hu] at ER2 u1 u2 ⊢
        have HU := hid hu
        clear hu
        have hu7 : u < 7 := by omega
        obtain ⟨p, hp⟩ : ∃ p, Hid (ps[u]? = some p) := ⟨_, hid (List.getElem?_eq_getElem (by rw [LP.out]; exact hu7))⟩
        have c0 : w6.cell? ⟨K, u * 2, none⟩ = some (.int .i64 p.1) := by rw [cell_at A4.out.1.2.1, List.getElem?_toArray]; exact (whL_at hp.out).1
        have c1 : w6.cell? ⟨K, u * 2 + 1, none⟩ = some (.bool p.2) := by rw [cell_at A4.out.1.2.1, List.getElem?_toArray]; exact (whL_at hp.out).2
        have u3 : (u : Int) < 7 := by omega
        have hg2 : ps.getD (u : Int).toNat (0, false) = p := by rw [Int.toNat_natCast, List.getD_eq_getElem?_getD, hp.out]; rfl
        rw [hg2] at ER2
        clear hg2
        have A7 := hid (A4.out.addBlk [.int .i64 p.1, .bool p.2] 42)
        have KK : K ≠ w6.heap.size := by
          have := (Array.getElem?_eq_some_iff.1 A4.out.1.2.1).1
          omega
        go_upto_region 11 with fail
        have eW : w6.alloc (.cells #[.int .i64 p.1, .bool p.2] 42) = w6.alloc (.cells [.int .i64 p.1, .bool p.2].toArray 42) := rfl
        rw [eW]
        clear eW c0 c1 KK A4 B4
        generalize hw7 : w6.alloc (.cells [.int .i64 p.1, .bool p.2].toArray 42) = w7 at *
        generalize hKK : w6.heap.size = K7 at *
        clear hw7 hKK
        have d0 : w7.cell? ⟨K7, 0, none⟩ = some (.int .i64 p.1) := by rw [cell_at A7.out.1.2.1]; rfl
        have d1 : w7.cell? ⟨K7, 1, none⟩ = some (.bool p.2) := by rw [cell_at A7.out.1.2.1]; rfl
        have B7 := hid (A7.out.into (w0 := w) (by simp))
        obtain ⟨p1, p2⟩ := p
        cases p2 with
        | false =>
          go_wp2
          go_ret3
          rw [EB2.out, ER2.out, if_neg (by simp)]
          exact ⟨rfl, B7.out⟩
        | true =>
          obtain ⟨i, hi, rfl, _⟩ := PP.out _ _ hp.out
          obtain ⟨x, hx⟩ := HLN.out i hi
          have hgx : l.getD (i : Int).toNat Wit.zero = x := by rw [Int.toNat_natCast, List.getD_eq_getElem?_getD, hx.out]; rfl
          have ER3 := ER2.out
          simp only [hgx, true_and] at ER3
          have ER3 := hid ER3
          clear hgx ER2
          obtain ⟨g', o', eg, hg', x0, x1, x2⟩ := HS.out.at B7.out hx.out
          cases eg
          have i1 : (0 : Int) ≤ (i : Int) := by omega
          have i2 : (i : Int) < (m : Int) := by omega
          by_cases s1 : x.vw = v
          · have s1b : (x.vw != v) = false := by simpa using s1
            cases hh : x.has with
            | true =>
              rw [hh] at x2
              go_wp2
              go_ret3
              rw [EB2.out, ER3.out, if_pos ⟨s1, hh⟩]
              exact ⟨rfl, B7.out⟩
            | false =>
              rw [hh] at x2
              go_wp2
              go_ret3
              rw [EB2.out, ER3.out, if_neg (by simp [hh])]
              exact ⟨rfl, B7.out⟩
          · have s1b : (x.vw != v) = true := by simpa using s1
            go_wp2
            go_ret3
            rw [EB2.out, ER3.out, if_neg (fun h => s1 h.1)]
            exact ⟨rfl, B7.out⟩
  all_goals
    have eb : Hid (rdR n me fo l = (0, false, (plR n (l.map Wit.who)).2)) := hid (by simp [rdR, hp])
    rw [eb.out]
    rw [hp] at C1 ⊢
    clear hp eb
    go_enter Try.func10, Try.ntmps10
    go_wp2_with fail
    refine C1.out.mono ?_
    rintro e w1 ⟨rfl, b1⟩
    have A1 : Hid (All (blkC w1.heap.size (whL zeroP) 43 :: [inC w]) ((w1.alloc (.cells (whL zeroP).toArray 43)).setRow w1.heap.size (whL zeroP).toArray)) := hid ((((All.came w).later b1).addBlk (whL zeroP) 43).setRw)
    go_upto_region 2 with (first | (refine wpList_store_row rfl 43 _ _ rfl w1.heap.size (whL zeroP).toArray rfl rfl 43 _ (heap_alloc_new _ _) (SZ.out _ lz) rfl (all_oneCell_toArray (whL_one _)) ?_))
    go_wp2
    go_ret3
    exact ⟨rfl, A1.out.into (w0 := w) (by simp)⟩
end Go.Proofs.Ytjnbnmlggbfodaa

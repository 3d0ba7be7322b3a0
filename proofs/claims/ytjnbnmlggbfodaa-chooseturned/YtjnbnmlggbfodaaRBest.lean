import Derived.Test.YtjnbnmlggbfodaaBest
namespace Go.Proofs.Ytjnbnmlggbfodaa
open Go.RowKit
set_option linter.unusedVariables false

/-- Who stands there. -/
theorem plc_mem {n : Int} {ids : List Int} (hn : n ≤ 7) : ∀ {k : Nat} {ps : List (Int × Bool)}, plc n ids k = some ps → ∀ d : Nat, d < 7 → ((ps.getD d (0, false)).2 = true ↔ ∃ j, j < k ∧ ids[j]? = some (d : Int))
  | 0, ps, h, d, hd => by
    simp [plc] at h
    subst h
    have : (zeroP.getD d (0, false)).2 = false := by
      have : d = 0 ∨ d = 1 ∨ d = 2 ∨ d = 3 ∨ d = 4 ∨ d = 5 ∨ d = 6 := by omega
      rcases this with rfl | rfl | rfl | rfl | rfl | rfl | rfl <;> rfl
    rw [this]
    exact ⟨fun h => (by cases h), fun ⟨j, hj, _⟩ => absurd hj (Nat.not_lt_zero _)⟩
  | k + 1, ps, h, d, hd => by
    unfold plc at h
    split at h
    · rename_i qs e e1 e2
      split at h
      · rename_i hc
        simp at h
        subst h
        have ih := plc_mem hn e1 d hd
        have hl := plc_len e1
        simp [isR] at hc
        obtain ⟨⟨hc1, hc2⟩, hc3⟩ := hc
        clear hc3
        by_cases hde : e.toNat = d
        · subst hde
          have : ((qs.set e.toNat ((k : Int), true)).getD e.toNat (0, false)).2 = true := by
            rw [List.getD_eq_getElem?_getD, List.getElem?_set_self (by omega)]
            rfl
          simp only [this, true_iff]
          exact ⟨k, by omega, by rw [e2, Int.toNat_of_nonneg hc1]⟩
        · have : (qs.set e.toNat ((k : Int), true)).getD d (0, false) = qs.getD d (0, false) := by
            rw [List.getD_eq_getElem?_getD, List.getD_eq_getElem?_getD, List.getElem?_set_ne hde]
          rw [this, ih]
          constructor
          · rintro ⟨j, h1, h2⟩
            exact ⟨j, by omega, h2⟩
          · rintro ⟨j, h1, h2⟩
            refine ⟨j, ?_, h2⟩
            rcases Nat.lt_or_ge j k with h3 | h3
            · exact h3
            · obtain rfl : j = k := by omega
              rw [e2] at h2
              simp at h2
              omega
      · cases h
    · cases h
/-- One more may stand there. -/
theorem plc_more {n : Int} {ids : List Int} (hn : n ≤ 7) {k : Nat} {ps : List (Int × Bool)} (h : plc n ids k = some ps) {d : Int} (hd : ids[k]? = some d) (h0 : 0 ≤ d) (h1 : d < n) (hno : ∀ j, j < k → ids[j]? ≠ some d) : ∃ qs, plc n ids (k + 1) = some qs := by
  rw [plc_next h hd]
  have hr : isR n d = true := by simp [isR, h0, h1]
  have hm := plc_mem hn h d.toNat (by omega)
  have : (ps.getD d.toNat (0, false)).2 = false := by
    cases hb : (ps.getD d.toNat (0, false)).2 with
    | false => rfl
    | true =>
      obtain ⟨j, h2, h3⟩ := hm.1 hb
      exact absurd h3 (by rw [show ((d.toNat : Nat) : Int) = d by omega]; exact hno j h2)
  rw [hr, this]
  exact ⟨_, rfl⟩
theorem plc_out {n : Int} {ids : List Int} {k m : Nat} {ps : List (Int × Bool)} (h : plc n ids k = some ps) {d : Int} (hd : ids[k]? = some d) (ho : isR n d = false) (hk : k < m) : plc n ids m = none := by
  have e := plc_none (n := n) (ids := ids) (k := k + 1) (by rw [plc_next h hd, ho]; rfl) (m - (k + 1))
  rwa [show k + 1 + (m - (k + 1)) = m by omega] at e
theorem plc_twice {n : Int} {ids : List Int} (hn : n ≤ 7) {k m : Nat} {ps : List (Int × Bool)} (h : plc n ids k = some ps) {d : Int} (hd : ids[k]? = some d) (h0 : 0 ≤ d) (h1 : d < n) {j : Nat} (hj : j < k) (hjd : ids[j]? = some d) (hk : k < m) : plc n ids m = none := by
  have hm := (plc_mem hn h d.toNat (by omega)).2 ⟨j, hj, by rw [hjd, show ((d.toNat : Nat) : Int) = d by omega]⟩
  have e := plc_none (n := n) (ids := ids) (k := k + 1) (by rw [plc_next h hd, hm]; simp) (m - (k + 1))
  rwa [show k + 1 + (m - (k + 1)) = m by omega] at e
def cmA (l : List Bal) (k : Nat) : Int := (l.getD (fsA cmB l k) Bal.zero).cm
theorem bsR_bad {n : Int} {l : List Bal} (hz : szd n l.length = true) (h : plc n (l.map Bal.who) l.length = none) : bsR n l = (0, 0, 121) := by
  have e : plR n (l.map Bal.who) = (zeroP, 121) := by unfold plR; rw [List.length_map, if_pos hz, h]; rfl
  unfold bsR
  rw [e]
  rfl
theorem bsR_good {n : Int} {l : List Bal} (hz : szd n l.length = true) {ps : List (Int × Bool)} (h : plc n (l.map Bal.who) l.length = some ps) : bsR n l = (((fsA ahB l l.length : Nat) : Int), cmA l l.length, 0) := by
  have e : plR n (l.map Bal.who) = (ps, 0) := by unfold plR; rw [List.length_map, if_pos hz, h]; rfl
  unfold bsR
  rw [e]
  rfl
theorem bsR_size {n : Int} {l : List Bal} (hz : szd n l.length = false) : bsR n l = (0, 0, 120) := by
  have e : plR n (l.map Bal.who) = (zeroP, 120) := by unfold plR; rw [List.length_map, hz]; rfl
  unfold bsR
  rw [e]
  rfl
abbrev balA (x : Bal) : Array Value := #[.int .i64 x.who, .int .i64 x.nm, .int .i64 x.op, .int .i64 x.cm]

set_option maxHeartbeats 3200000 in
set_option maxRecDepth 1000000 in
theorem RBest_any {w : World} {s : Value} {l : List Bal} (hs : BalsAt w s l) (hl : l.length ≤ 9223372036854775807) (n : Int) : Calls Try.prog 9 #[.int .i64 n, s] w fun e w' => e = .returned (V3 (bsR n l)) ∧ Below w.heap.size w w' := by
  have HS := hid hs
  obtain ⟨ao, c, rfl⟩ := hs.form
  have hcap := (hs.cap).1
  clear hs
  have C1 := hid (fun w => sized_any (w := w) n (l.length : Int))
  cases hz : szd n l.length with
  | false =>
    rw [bsR_size hz]
    rw [hz] at C1
    clear hz
    go_enter Try.func9, Try.ntmps9
    go_wp2_with fail
    refine (C1.out _).mono ?_
    rintro e w1 ⟨rfl, rfl⟩
    go_wp2
    go_ret3
    exact ⟨rfl, Below.refl _ _⟩
  | true =>
    obtain ⟨h0, h7, hmn, hf⟩ := szd_few hz
    have hn7 : n ≤ 7 := by rcases fl_cases hf with rfl | rfl | rfl <;> decide
    have EB := hid (bsR_bad (n := n) (l := l) hz)
    have EG := hid (fun ps => bsR_good (n := n) (l := l) hz (ps := ps))
    rw [hz] at C1
    have HLL : Hid (∀ i (x : Bal), l[i]? = some x → (l.map Bal.who)[i]? = some x.who) := hid (by intro i x h; rw [List.getElem?_map, h]; rfl)
    have HLN : Hid (∀ i, i < l.length → ∃ x, Hid (l[i]? = some x)) := hid (fun i h => ⟨_, hid (List.getElem?_eq_getElem h)⟩)
    generalize l.map Bal.who = ids at *
    generalize hR : bsR n l = R at *
    generalize hlm : l.length = m at *
    clear hz hf hR hlm
    go_enter Try.func9, Try.ntmps9
    go_wp2_with fail
    refine (C1.out _).mono ?_
    rintro e w1 ⟨rfl, rfl⟩
    go_wp2
    clear C1
    go_loopw [22] (fun iv wr => ∃ (i : Nat) (ps : List (Int × Bool)), i ≤ m ∧ iv = .int .i64 (i : Int) ∧ Hid (plc n ids i = some ps) ∧ Hid (Below w1.heap.size w1 wr)) (fun iv _ => m - (intOf iv).toNat)
    case atStart => exact ⟨0, zeroP, by omega, rfl, hid rfl, hid (Below.refl _ _)⟩
    case round =>
      obtain ⟨i, ps, hi, rfl, PC, BR⟩ := hrel
      by_cases hlt : i < m
      · obtain ⟨x, hx⟩ := HLN.out i hlt
        obtain ⟨g, o, rfl, hg, x0, x1, x2, x3⟩ := HS.out.at BR.out hx.out
        have hxi := hid (HLL.out _ _ hx.out)
        have A2 := hid (((All.came w1).later BR.out).addBlk x.cells 27)
        have hK : g ≠ wr.heap.size := by have := BR.out.size; omega
        have l1 : decide ((i : Int) < (m : Int)) = true := decide_eq_true (by omega)
        have l2 : (i : Int) < (m : Int) := by omega
        go_upto_region 6 with fail
        have eW : wr.alloc (.cells #[.int .i64 x.who, .int .i64 x.nm, .int .i64 x.op, .int .i64 x.cm] 27) = wr.alloc (.cells x.cells.toArray 27) := rfl
        rw [eW]
        clear eW x0 x1 x2 x3 hK BR
        generalize hw4 : wr.alloc (.cells x.cells.toArray 27) = w4 at *
        generalize hKK : wr.heap.size = K at *
        clear hw4 hKK
        obtain ⟨z0, z1, z2, z3⟩ := Bal.blk A2.out.1.2.1
        by_cases r0 : x.who < 0
        · have r0b : decide (x.who < 0) = true := decide_eq_true r0
          go_wp2
          go_ret3
          rw [EB.out (plc_out PC.out hxi.out (by simp [isR]; omega) hlt)]
          exact ⟨rfl, A2.out.into (w0 := w1) (by simp)⟩
        · have r0b : decide (x.who < 0) = false := decide_eq_false r0
          by_cases r1 : n ≤ x.who
          · have r1b : decide (n ≤ x.who) = true := decide_eq_true r1
            go_wp2
            go_ret3
            rw [EB.out (plc_out PC.out hxi.out (by simp [isR]; omega) hlt)]
            exact ⟨rfl, A2.out.into (w0 := w1) (by simp)⟩
          · have r1b : decide (n ≤ x.who) = false := decide_eq_false r1
            have l3 : (i : Int) ≤ (c : Int) := by omega
            have l4 : (0 : Int) ≤ (i : Int) := by omega
            go_wp2
            clear z0 z1 z2 z3
            go_loopw [40] (fun jv wr => ∃ (j : Nat), j ≤ i ∧ jv = .int .i64 (j : Int) ∧ Hid (∀ q, q < j → ids[q]? ≠ some x.who) ∧ Hid (All [blkC K x.cells 27, inC w1] wr)) (fun jv _ => i - (intOf jv).toNat)
            case atStart => exact ⟨0, by omega, rfl, hid (fun q hq => absurd hq (Nat.not_lt_zero _)), A2⟩
            case round =>
              clear A2
              obtain ⟨j, hj, rfl, HNO, A2⟩ := hrel
              by_cases hji : j < i
              · obtain ⟨y, hy⟩ := HLN.out j (by omega)
                have BR := hid (A2.out.into (w0 := w1) (by simp))
                obtain ⟨g', o', eg, hg', y0, y1, y2, y3⟩ := HS.out.at BR.out hy.out
                cases eg
                have hyi := hid (HLL.out _ _ hy.out)
                have A3 := hid (A2.out.addBlk y.cells 27)
                have hK : g ≠ wr.heap.size := by have := BR.out.size; omega
                have k1 : decide ((j : Int) < (i : Int)) = true := decide_eq_true (by omega)
                have k2 : (j : Int) < (i : Int) := by omega
                go_upto_region 11 with fail
                have eW : wr.alloc (.cells #[.int .i64 y.who, .int .i64 y.nm, .int .i64 y.op, .int .i64 y.cm] 27) = wr.alloc (.cells y.cells.toArray 27) := rfl
                rw [eW]
                clear eW y0 y1 y2 y3 hK BR A2
                generalize hw5 : wr.alloc (.cells y.cells.toArray 27) = w5 at *
                generalize hKK : wr.heap.size = K2 at *
                clear hw5 hKK
                obtain ⟨z0, _, _, _⟩ := Bal.blk A3.out.1.2.1
                obtain ⟨u0, _, _, _⟩ := Bal.blk A3.out.tail.1.2.1
                by_cases he : y.who = x.who
                · have heb : (y.who == x.who) = true := by simpa using he
                  have PN := hid (EB.out (plc_twice hn7 PC.out hxi.out (by omega) (by omega) hji (by rw [← he]; exact hyi.out) hlt))
                  clear he
                  go_wp2
                  go_ret3
                  rw [PN.out]
                  exact ⟨rfl, A3.out.into (w0 := w1) (by simp)⟩
                · have heb : (y.who == x.who) = false := by simpa using he
                  have HNO' : Hid (∀ q, q < j + 1 → ids[q]? ≠ some x.who) := hid (fun q hq => by
                    rcases Nat.lt_or_ge q j with h | h
                    · exact HNO.out q h
                    · obtain rfl : q = j := by omega
                      rw [hyi.out]
                      simpa using he)
                  go_wp2
                  go_roundw
                  case rel => exact ⟨j + 1, by omega, by go_num, HNO', hid A3.out.tail⟩
                  case measure => simp [intOf]; omega
              · obtain rfl : j = i := by omega
                have k1 : decide ((j : Int) < (j : Int)) = false := decide_eq_false (by omega)
                obtain ⟨qs, hqs⟩ := plc_more hn7 PC.out hxi.out (by omega) (by omega) HNO.out
                have hqs := hid hqs
                go_wp2
                go_roundw
                case rel => exact ⟨j + 1, qs, by omega, by go_num, hqs, hid (A2.out.into (w0 := w1) (by simp))⟩
                case measure => simp [intOf]; omega
      · obtain rfl : i = m := by omega
        have l1 : decide ((i : Int) < (i : Int)) = false := decide_eq_false (by omega)
        have EGR := hid (EG.out _ PC.out)
        clear EG EB PC
        obtain ⟨x, hx⟩ := HLN.out 0 h0
        obtain ⟨g, o, rfl, hg, x0, x1, x2, x3⟩ := HS.out.at BR.out hx.out
        rw [Nat.zero_mul, Nat.add_zero] at x0 x1 x2 x3
        have i0 : (0 : Int) < (i : Int) := by omega
        go_upto_region 15 with fail
        go_quiet (fail)
        have HC : Hid (x.cm = cmA l 0) := hid (by
          have e := hx.out
          show x.cm = (l.getD 0 Bal.zero).cm
          rw [List.getD_eq_getElem?_getD, e]; rfl)
        have B4 := hid (BR.out.trans ((bdN wr nq).mono BR.out.size))
        clear x0 x1 x2 x3 BR
        generalize hw4 : wr.drewN nq = w4 at *
        clear hw4
        go_wp2
        go_loopw [11, 12, 57] (fun av cv jv wr => ∃ j : Nat, j ≤ i ∧ jv = .int .i64 (j : Int) ∧ av = .int .i64 (fsA ahB l j : Nat) ∧ cv = .int .i64 (cmA l j) ∧ Hid (Below w1.heap.size w1 wr)) (fun _ _ jv _ => i - (intOf jv).toNat)
        case atStart => exact ⟨0, by omega, rfl, rfl, by rw [HC.out], B4⟩
        case round =>
          clear B4
          obtain ⟨j, hj, rfl, rfl, rfl, BR⟩ := hrel
          by_cases hlt : j < i
          · obtain ⟨x, hx⟩ := HLN.out j hlt
            have hal : fsA ahB l j < i := fsA_lt _ _ h0 hj
            have hcl : fsA cmB l j < i := fsA_lt _ _ h0 hj
            obtain ⟨y, hy⟩ := HLN.out _ hal
            obtain ⟨z, hz⟩ := HLN.out _ hcl
            have HN : Hid (fsA ahB l (j + 1) = if ahB x y then j else fsA ahB l j) := hid (fsA_next hx.out hy.out)
            have HN2 : Hid (cmA l (j + 1) = if z.cm < x.cm then x.cm else z.cm) := hid (by
              unfold cmA
              rw [fsA_next hx.out hz.out, show cmB x z = decide (z.cm < x.cm) from rfl]
              by_cases h : z.cm < x.cm
              · rw [decide_eq_true h, if_pos rfl, if_pos h, List.getD_eq_getElem?_getD, hx.out]; rfl
              · rw [decide_eq_false h, if_neg (by simp), if_neg h, List.getD_eq_getElem?_getD, hz.out]; rfl)
            have HZ : Hid (cmA l j = z.cm) := hid (by unfold cmA; rw [List.getD_eq_getElem?_getD, hz.out]; rfl)
            rw [HZ.out]
            clear HZ hcl hz
            obtain ⟨g', o', eg, hg', x0, x1, x2, x3⟩ := HS.out.at BR.out hx.out
            cases eg
            have A2 := hid (((All.came w1).later BR.out).addBlk x.cells 27)
            have hK : g ≠ wr.heap.size := by have := BR.out.size; omega
            generalize fsA ahB l j = a at *
            have k1 : decide ((j : Int) < (i : Int)) = true := decide_eq_true (by omega)
            have k2 : (j : Int) < (i : Int) := by omega
            go_upto_region 19 with fail
            have eW : wr.alloc (.cells #[.int .i64 x.who, .int .i64 x.nm, .int .i64 x.op, .int .i64 x.cm] 27) = wr.alloc (.cells x.cells.toArray 27) := rfl
            rw [eW]
            clear eW x0 x1 x2 x3 hK
            generalize hw4 : wr.alloc (.cells x.cells.toArray 27) = w4 at *
            generalize hKK : wr.heap.size = K at *
            clear hw4 hKK
            have B4 := hid (A2.out.into (w0 := w1) (by simp))
            obtain ⟨z0, z1, z2, z3⟩ := Bal.blk A2.out.1.2.1
            obtain ⟨g', o', eg, hg', y0, y1, y2, y3⟩ := HS.out.at B4.out hy.out
            cases eg
            have a1 : (0 : Int) ≤ (a : Int) := by omega
            have a2 : (a : Int) < (i : Int) := by omega
            go_region_held3 (fun W => W.cell? ⟨K, 0, none⟩ = some (.int .i64 x.who) ∧ W.cell? ⟨K, 1, none⟩ = some (.int .i64 x.nm) ∧ W.cell? ⟨K, 2, none⟩ = some (.int .i64 x.op) ∧ W.cell? ⟨K, 3, none⟩ = some (.int .i64 x.cm) ∧ W.cell? ⟨g, o + a * 4, none⟩ = some (.int .i64 y.who) ∧ W.cell? ⟨g, o + a * 4 + 1, none⟩ = some (.int .i64 y.nm) ∧ W.cell? ⟨g, o + a * 4 + 2, none⟩ = some (.int .i64 y.op) ∧ W.cell? ⟨g, o + a * 4 + 3, none⟩ = some (.int .i64 y.cm)) (go_keep) (first | (go_at_call 21; refine (ah21 x y).mono ?_; rintro e w5 ⟨rfl, hb⟩; have B5 := hid (B4.out.trans (((bd w4).trans hb).mono B4.out.size)); obtain ⟨g1, o1, eg1, _, q0, q1, q2, q3⟩ := HS.out.at B5.out hy.out; cases eg1; have hz : w5.heap[K]? = some (.cells x.cells.toArray 27 (0, 0)) := ((((bd w4).trans hb).block K (Array.getElem?_eq_some_iff.1 A2.out.1.2.1).1).trans A2.out.1.2.1); obtain ⟨p0, p1, p2, p3⟩ := Bal.blk hz; clear hz hb))
            clear z0 z1 z2 z3 y0 y1 y2 y3 q0 q1 q2 q3
            by_cases hcm : z.cm < x.cm
            · have hcmb : decide (z.cm < x.cm) = true := decide_eq_true hcm
              have HN2' : Hid (cmA l (j + 1) = x.cm) := hid (by rw [HN2.out, if_pos hcm])
              clear HN2
              cases hb : ahB x y with
              | true =>
                go_wp2
                go_roundw
                case rel => exact ⟨j + 1, by omega, by go_num, by rw [HN.out, hb]; rfl, by rw [HN2'.out], B5⟩
                case measure => simp [intOf]; omega
              | false =>
                go_wp2
                go_roundw
                case rel => exact ⟨j + 1, by omega, by go_num, by rw [HN.out, hb]; rfl, by rw [HN2'.out], B5⟩
                case measure => simp [intOf]; omega
            · have hcmb : decide (z.cm < x.cm) = false := decide_eq_false hcm
              have HN2' : Hid (cmA l (j + 1) = z.cm) := hid (by rw [HN2.out, if_neg hcm])
              clear HN2
              cases hb : ahB x y with
              | true =>
                go_wp2
                go_roundw
                case rel => exact ⟨j + 1, by omega, by go_num, by rw [HN.out, hb]; rfl, by rw [HN2'.out], B5⟩
                case measure => simp [intOf]; omega
              | false =>
                go_wp2
                go_roundw
                case rel => exact ⟨j + 1, by omega, by go_num, by rw [HN.out, hb]; rfl, by rw [HN2'.out], B5⟩
                case measure => simp [intOf]; omega
          · obtain rfl : j = i := by omega
            have k1 : decide ((j : Int) < (j : Int)) = false := decide_eq_false (by omega)
            go_wp2
            go_ret3
            rw [EGR.out]
            exact ⟨rfl, BR.out⟩
end Go.Proofs.Ytjnbnmlggbfodaa

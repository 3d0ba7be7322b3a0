import Derived.Test.YtjnbnmlggbfodaaApp
namespace Go.Proofs.Ytjnbnmlggbfodaa
open Go.RowKit
set_option linter.unusedVariables false

theorem vwA_max {l : List Wit} (h0 : 0 < l.length) : ∀ {k : Nat}, k ≤ l.length → ∀ j y, j < k → l[j]? = some y → y.vw ≤ vwA l k
  | 0, _, j, y, hj, _ => absurd hj (Nat.not_lt_zero _)
  | k + 1, hk, j, y, hj, hy => by
    obtain ⟨x, hx⟩ : ∃ x, l[k]? = some x := ⟨_, List.getElem?_eq_getElem (by omega)⟩
    have hcl : fsA vwW l k < l.length := fsA_lt _ _ h0 (by omega)
    obtain ⟨z, hz⟩ : ∃ z, l[fsA vwW l k]? = some z := ⟨_, List.getElem?_eq_getElem hcl⟩
    have e : vwA l (k + 1) = if z.vw < x.vw then x.vw else z.vw := by
      unfold vwA
      rw [fsA_next hx hz, show vwW x z = decide (z.vw < x.vw) from rfl]
      by_cases h : z.vw < x.vw
      · rw [decide_eq_true h, if_pos rfl, if_pos h, List.getD_eq_getElem?_getD, hx]; rfl
      · rw [decide_eq_false h, if_neg (by simp), if_neg h, List.getD_eq_getElem?_getD, hz]; rfl
    have ez : vwA l k = z.vw := by unfold vwA; rw [List.getD_eq_getElem?_getD, hz]; rfl
    rw [e]
    rcases Nat.lt_or_ge j k with h | h
    · have ih := vwA_max h0 (by omega) j y h hy
      rw [ez] at ih
      split <;> omega
    · obtain rfl : j = k := by omega
      rw [hx] at hy
      cases hy
      split <;> omega
theorem rdR_no {n me fo : Int} {l : List Wit} (h : (rdR n me fo l).2.1 = false) : (rdR n me fo l).1 = 0 := by
  unfold rdR at h ⊢
  split
  · rename_i h1
    rw [if_pos h1] at h
    split
    · rfl
    · rename_i h2
      rw [if_neg h2] at h
      unfold rdV at h ⊢
      split
      · rfl
      · rename_i h3
        rw [if_neg h3] at h
        split
        · rename_i h4
          rw [if_pos h4] at h
          cases h
        · rfl
  · rfl
structure Bel (n me fo : Int) (l : List Wit) (i : Nat) (x : Wit) : Prop where
  at_ : l[i]? = some x
  fl_ : fl n = true
  many : maj n ≤ (l.length : Int)
  few : l.length ≤ 7
  most : ∀ (j : Nat) (y : Wit), l[j]? = some y → y.vw ≤ x.vw ∧ y.who ≠ me
  has : x.has = true
  fo_ : fo ≤ x.vw
  nn : 0 ≤ x.vw
  who : x.who = x.vw % n
theorem rdR_yes {n me fo : Int} {l : List Wit} (h : (rdR n me fo l).2.1 = true) : (rdR n me fo l).2.2 = 0 ∧ ∃ i x, (rdR n me fo l).1 = ((i : Nat) : Int) ∧ Bel n me fo l i x := by
  rcases plR_cases n (l.map Wit.who) with ⟨ps, hp, hz, hpc⟩ | hp | hp
  · have hz' := hz
    rw [List.length_map] at hz' hpc
    obtain ⟨h0, h7, hmn, hf⟩ := szd_few hz'
    have hn7 : n ≤ 7 := by rcases fl_cases hf with rfl | rfl | rfl <;> decide
    have hn3 : 3 ≤ n := by rcases fl_cases hf with rfl | rfl | rfl <;> decide
    rw [rdR_ok hz' hpc] at h ⊢
    by_cases h1 : isR n me = false ∨ (ps.getD me.toNat (0, false)).2 = true
    · rw [if_pos h1] at h; cases h
    rw [if_neg h1] at h ⊢
    unfold rdV at h ⊢
    by_cases h2 : (l.length : Int) < maj n ∨ vwA l l.length < 0 ∨ vwA l l.length < fo
    · rw [if_pos h2] at h; cases h
    rw [if_neg h2] at h ⊢
    split at h
    case isFalse => cases h
    rename_i h3
    rw [if_pos h3]
    obtain ⟨h3, h4, h5⟩ := h3
    have hu := Int.emod_nonneg (vwA l l.length) (b := n) (by omega)
    have hu2 := Int.emod_lt_of_pos (vwA l l.length) (b := n) (by omega)
    have hlp := plc_len hpc
    obtain ⟨p, hpp⟩ : ∃ p, ps[(vwA l l.length % n).toNat]? = some p := ⟨_, List.getElem?_eq_getElem (by omega)⟩
    have hg : ps.getD (vwA l l.length % n).toNat (0, false) = p := by rw [List.getD_eq_getElem?_getD, hpp]; rfl
    rw [hg] at h3 h4 h5 ⊢
    obtain ⟨a, b⟩ := p
    simp only at h3
    subst h3
    obtain ⟨i, hi, rfl, hid⟩ := plc_pos hn7 hpc _ _ hpp
    obtain ⟨x, hx⟩ : ∃ x, l[i]? = some x := ⟨_, List.getElem?_eq_getElem hi⟩
    have hg2 : l.getD (i : Int).toNat Wit.zero = x := by rw [Int.toNat_natCast, List.getD_eq_getElem?_getD, hx]; rfl
    simp only [hg2] at h4 h5
    rw [List.getElem?_map, hx, Int.toNat_of_nonneg hu] at hid
    have hw : x.who = vwA l l.length % n := by simpa using hid
    have hme : 0 ≤ me ∧ me < n := by
      have : isR n me = true := by
        cases hb : isR n me with
        | true => rfl
        | false => exact absurd (Or.inl hb) h1
      simpa [isR] using this
    refine ⟨rfl, i, x, rfl, hx, hf, by omega, h7, fun j y hy => ⟨?_, fun e => ?_⟩, h5, by omega, by omega, by rw [hw, h4]⟩
    · rw [h4]
      exact vwA_max h0 (Nat.le_refl _) j y (List.getElem?_eq_some_iff.1 hy).1 hy
    · apply h1
      right
      have := plc_get hn7 hpc j me.toNat (List.getElem?_eq_some_iff.1 hy).1 (by rw [Int.toNat_of_nonneg hme.1, List.getElem?_map, hy, ← e]; rfl)
      rw [List.getD_eq_getElem?_getD, this]; rfl
  all_goals
    exfalso
    unfold rdR at h
    rw [hp] at h
    cases h
theorem WitsAt.new (w : World) (l : List Wit) (hl : l.length ≤ maxLen) : WitsAt (w.alloc (.cells (flatW l).toArray 33)) (.slice (some ⟨w.heap.size, 0, none⟩) l.length l.length) l :=
  WitsAt.of_owns (base := 0) ⟨by rw [flatW_len], Or.inr ⟨w.heap.size, l.length, (flatW l).toArray, rfl, Nat.zero_le _, heap_alloc_new w _, Nat.le_refl _, hl, by rw [List.size_toArray, flatW_len], by rw [← flatW_len]; simp⟩⟩
def lit2 : List Wit := [⟨1, 4, true⟩, ⟨2, 3, false⟩]
theorem lit2_is : rdR 3 0 0 lit2 = (0, true, 0) := by decide

set_option maxHeartbeats 3200000 in
set_option maxRecDepth 1000000 in
theorem believes_walk {w : World} {s : Value} {l : List Wit} (hs : WitsAt w s l) (hl : l.length * 24 ≤ 140737488351232) (n me fo : Int) : Calls Try.prog 7 #[.int .i64 n, .int .i64 me, .int .i64 fo, s] w fun e w' => e = .returned (.bool true) ∧ Below w.heap.size w w' := by
  have HS := hid hs
  obtain ⟨ao, c, rfl⟩ := hs.form
  have hl2 : l.length ≤ 9223372036854775807 := by omega
  clear hs hl
  have C1 := hid (Ready_any (WitsAt.new w lit2 (by decide)) (by decide) 3 0 0)
  rw [lit2_is] at C1
  have C2 := hid (fun w2 (b : Below w.heap.size w w2) => Ready_any (HS.out.later b) hl2 n me fo)
  have eW : (w.alloc (.cells #[.int .i64 1, .int .i64 4, .bool true, .int .i64 2, .int .i64 3, .bool false] 33)) = w.alloc (.cells (flatW lit2).toArray 33) := rfl
  have B0 := hid (ba w (.cells (flatW lit2).toArray 33))
  have hno := hid (rdR_no (n := n) (me := me) (fo := fo) (l := l))
  have hyes := hid (rdR_yes (n := n) (me := me) (fo := fo) (l := l))
  generalize rdR n me fo l = R at *
  obtain ⟨R1, R2, R3⟩ := R
  go_enter Try.func7, Try.ntmps7
  go_wp2_with fail
  try rw [eW]
  refine C1.out.mono ?_
  rintro e w1 ⟨rfl, b1⟩
  have B1 := hid (B0.out.trans (b1.mono B0.out.size))
  have C3 := hid (C2.out w1 B1.out)
  clear C1 C2 eW B0 b1
  go_wp2_with fail
  refine C3.out.mono ?_
  rintro e w2 ⟨rfl, b2⟩
  have B2 := hid (B1.out.trans (b2.mono B1.out.size))
  clear C3 B1 b2
  cases R2 with
  | false =>
    have h0 : R1 = 0 := hno.out rfl
    subst h0
    go_wp2
    go_ret
    exact ⟨rfl, B2.out⟩
  | true =>
    obtain ⟨h1, i, x, h2, HB⟩ := hyes.out rfl
    subst h1 h2
    have HB := hid HB
    clear hno hyes
    have hi : i < l.length := (List.getElem?_eq_some_iff.1 HB.out.at_).1
    have h7 := HB.out.few
    obtain ⟨f, hqf, hmf, hf1, hf2, hn3, hn7⟩ : ∃ f : Int, (n - 1).tdiv 2 = f ∧ f < (l.length : Int) ∧ 0 ≤ f ∧ f ≤ 7 ∧ 3 ≤ n ∧ n ≤ 7 := by
      have hm := HB.out.many
      rcases fl_cases HB.out.fl_ with rfl | rfl | rfl <;> (simp [maj, fl] at hm; exact ⟨_, rfl, by simp; omega, by decide, by decide, by decide, by decide⟩)
    obtain ⟨g, o, rfl, hg, x0, x1, x2⟩ := HS.out.at B2.out HB.out.at_
    have A2 := hid (((All.came w).later B2.out).addBlk x.cells 33)
    have hK : g ≠ w2.heap.size := by have := B2.out.size; omega
    have HLN : Hid (∀ i, i < l.length → ∃ x, Hid (l[i]? = some x)) := hid (fun i h => ⟨_, hid (List.getElem?_eq_getElem h)⟩)
    generalize hm : l.length = m at *
    clear hm
    have i1 : (0 : Int) ≤ (i : Int) := by omega
    have i2 : (i : Int) < (m : Int) := by omega
    have i3 : ¬ (m : Int) ≤ (i : Int) := by omega
    have i3b : decide ((m : Int) ≤ (i : Int)) = false := decide_eq_false i3
    have i4 : ¬ (m : Int) ≤ f := by omega
    have i4b : decide ((m : Int) ≤ f) = false := decide_eq_false i4
    have i5 : ¬ n < 3 := by omega
    have i6 : ¬ (i : Int) < 0 := by omega
    go_upto_region 10 with fail
    have eW : w2.alloc (.cells #[.int .i64 x.who, .int .i64 x.vw, .bool x.has] 33) = w2.alloc (.cells x.cells.toArray 33) := rfl
    rw [eW]
    clear eW x0 x1 x2 hK B2 i3 i3b i4 i4b i5 i6 hqf
    generalize hw4 : w2.alloc (.cells x.cells.toArray 33) = w4 at *
    generalize hKK : w2.heap.size = K at *
    clear hw4 hKK
    go_wp2
    go_loopw [79] (fun jv wr => ∃ (j : Nat), j ≤ m ∧ jv = .int .i64 (j : Int) ∧ Hid (All [blkC K x.cells 33, inC w] wr)) (fun jv _ => m - (intOf jv).toNat)
    case atStart => exact ⟨0, by omega, rfl, A2⟩
    case round =>
      clear A2
      obtain ⟨j, hj, rfl, A2⟩ := hrel
      by_cases hji : j < m
      · obtain ⟨y, hy⟩ := HLN.out j hji
        have BR := hid (A2.out.into (w0 := w) (by simp))
        obtain ⟨g', o', eg, hg', y0, y1, y2⟩ := HS.out.at BR.out hy.out
        cases eg
        have A3 := hid (A2.out.addBlk y.cells 33)
        have hK : g ≠ wr.heap.size := by have := BR.out.size; omega
        have k1 : decide ((j : Int) < (m : Int)) = true := decide_eq_true (by omega)
        have k2 : (j : Int) < (m : Int) := by omega
        obtain ⟨t1, t2⟩ := HB.out.most j y hy.out
        go_upto_region 13 with fail
        have eW : wr.alloc (.cells #[.int .i64 y.who, .int .i64 y.vw, .bool y.has] 33) = wr.alloc (.cells y.cells.toArray 33) := rfl
        rw [eW]
        clear eW y0 y1 y2 hK BR A2
        generalize hw5 : wr.alloc (.cells y.cells.toArray 33) = w5 at *
        generalize hKK : wr.heap.size = K2 at *
        clear hw5 hKK
        obtain ⟨z0, z1, _⟩ := Wit.blk A3.out.1.2.1
        obtain ⟨u0, u1, _⟩ := Wit.blk A3.out.tail.1.2.1
        have t1b : decide (x.vw < y.vw) = false := decide_eq_false (by omega)
        have t1c : ¬ x.vw < y.vw := by omega
        have t2b : (y.who == me) = false := by simpa using t2
        go_wp2
        go_roundw
        case rel => exact ⟨j + 1, by omega, by go_num, hid A3.out.tail⟩
        case measure => simp [intOf]; omega
      · obtain rfl : j = m := by omega
        have k1 : decide ((j : Int) < (j : Int)) = false := decide_eq_false (by omega)
        obtain ⟨z0, z1, z2⟩ := Wit.blk A2.out.1.2.1
        have s1 := HB.out.fo_
        have s2 := HB.out.nn
        have s3 := HB.out.who
        rw [HB.out.has] at z2
        have hnn : ¬ n = 0 := by omega
        have hmt : x.vw.tmod n = x.who := by rw [s3]; exact Int.tmod_eq_emod_of_nonneg s2
        have B2 := hid (A2.out.into (w0 := w) (by simp))
        clear s3 HB HS A2
        generalize x.who = xw at *
        generalize x.vw = xv at *
        have s1b : decide (fo ≤ xv) = true := decide_eq_true s1
        have s2b : decide (0 ≤ xv) = true := decide_eq_true s2
        go_upto_region 16 with fail
        go_quiet (fail)
        go_wp2
        go_ret
        exact ⟨rfl, B2.out.trans ((bdN _ nq).mono B2.out.size)⟩
end Go.Proofs.Ytjnbnmlggbfodaa

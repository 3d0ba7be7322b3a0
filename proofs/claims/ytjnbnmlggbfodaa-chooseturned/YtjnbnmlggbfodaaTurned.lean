import Derived.Test.YtjnbnmlggbfodaaTurnedP
namespace Go.Proofs.Ytjnbnmlggbfodaa
open Go.RowKit
set_option linter.unusedVariables false

theorem bsR_at (n : Int) (l : List Bal) : 0 ≤ (bsR n l).1 ∧ (bsR n l).1 ≤ 7 := by
  cases hz : szd n l.length with
  | false => rw [bsR_size hz]; decide
  | true =>
    obtain ⟨h0, h7, _, _⟩ := szd_few hz
    cases hp : plc n (l.map Bal.who) l.length with
    | none => rw [bsR_bad hz hp]; decide
    | some ps =>
      rw [bsR_good hz hp]
      have := fsA_lt ahB l h0 (Nat.le_refl l.length)
      simp only
      omega
theorem smS_full {l : List Bal} {xs : List Int} : (smS l xs l.length).2.Perm l := by
  have hp := smS_perm (l := l) (xs := xs) (Nat.le_refl _)
  have hl := (smS_len (l := l) (xs := xs) (Nat.le_refl _)).1
  have : (smS l xs l.length).1 = [] := List.length_eq_zero_iff.1 (by omega)
  rwa [this, List.append_nil] at hp
/-- A list of witnesses, turned. -/
theorem rot_any {W : World} {g o m c : Nat} {r : List Wit} {cs : List Comp} (A : All cs W) (hs : WitsAt W (.slice (some ⟨g, o, none⟩) m c) r) (hm : r.length = m) (h7 : m ≤ 7) {k : Nat} (hk : k < m) :
    ∃ ao1 c1 w1 ao2 c2 w2, (Builtin.append_ #[29, 29] 29 #[.slice none 0 0, .slice (some ⟨g, o + k * 3, none⟩) (m - k) (c - k)]).run Try.prog W = .ok (.slice ao1 (m - k) c1) w1 ∧
      (Builtin.append_ #[29, 29] 29 #[.slice ao1 (m - k) c1, .slice (some ⟨g, o, none⟩) k c]).run Try.prog w1 = .ok (.slice ao2 m c2) w2 ∧
      All (rowW (.slice ao2 m c2) (r.drop k ++ r.take k) :: cs) w2 := by
  have hcap := hs.cap.1
  have hd := hs.drop (i := k) (by omega)
  rw [if_neg (by omega)] at hd
  obtain ⟨ao1, c1, w1, hr1, A1⟩ := copyW ((All.came W)) hd (by rw [List.length_drop]; omega)
  obtain ⟨ao1', c1', w1', hr1', A1'⟩ := copyW A hd (by rw [List.length_drop]; omega)
  rw [hr1] at hr1'
  simp only [Result.ok.injEq, Value.slice.injEq] at hr1'
  obtain ⟨⟨rfl, _, rfl⟩, rfl⟩ := hr1'
  have ht := (hs.later (A1.into (w0 := W) (by simp))).take (i := k) (by omega)
  obtain ⟨ao2, c2, w2, hr2, A2⟩ := appW A1' ht (by rw [List.length_take, List.length_drop]; omega)
  have e1 : (r.drop k).length = m - k := by rw [List.length_drop, hm]
  have e2 : (r.drop k ++ r.take k).length = m := by rw [List.length_append, List.length_take, List.length_drop]; omega
  rw [e1] at hr1 hr2
  rw [e2] at hr2
  refine ⟨ao1, c1, w1, ao2, c2, w2, hr1, hr2, ?_⟩
  rw [← e2]
  exact A2

set_option maxHeartbeats 3200000 in
set_option maxRecDepth 1000000 in
theorem turned_walk {w : World} {s sw p : Value} {l : List Bal} {wl : List Wit} {xs : List Int} (hs : BalsAt w s l) (hl : l.length * 32 ≤ 140737488351232) (hw : WitsAt w sw wl) (hwl : wl.length * 24 ≤ 140737488351232) (hp : IntsAt w p xs) (hxl : xs.length * 8 ≤ 140737488351232) (n me fo : Int) : Calls Try.prog 6 #[.int .i64 n, .int .i64 me, .int .i64 fo, s, sw, p] w fun e w' => e = .returned (.bool true) ∧ Below w.heap.size w w' := by
  have HS := hid hs
  have HW := hid hw
  have HP := hid hp
  obtain ⟨ao, c, rfl⟩ := hs.form
  obtain ⟨wa, wc, rfl⟩ := hw.form
  obtain ⟨pa, pc, rfl⟩ := hp.form
  have hl2 := hid (show l.length ≤ 9223372036854775807 by omega)
  have hwl2 := hid (show wl.length ≤ 9223372036854775807 by omega)
  have hxl2 : xs.length ≤ 140737488351232 := by omega
  have hll : l.length ≤ 140737488351232 := by omega
  have hwll : wl.length ≤ 140737488351232 := by omega
  have C8 := hid (Best_any hs hl2.out n)
  clear hs hw hp hl hwl hxl
  have RAT := hid (bsR_at n l)
  have TB := hid (fun (t : List Bal) (h : t.Perm l) => turned_best (n := n) h)
  obtain ⟨R1, R2, R3, hR⟩ : ∃ R1 R2 R3, Hid (bsR n l = (R1, R2, R3)) := ⟨_, _, _, hid rfl⟩
  rw [hR.out] at C8 RAT
  obtain ⟨ra1, ra2⟩ := RAT.out
  simp only at ra1 ra2
  have SF := hid (smS_full (l := l) (xs := xs))
  go_enter Try.func6, Try.ntmps6
  go_wp2_with fail
  refine C8.out.mono ?_
  rintro e w1 ⟨rfl, b1⟩
  have B1 := hid b1
  clear C8 b1 RAT
  have HPS := hid (fun w2 (b : Below w.heap.size w w2) (h7 : l.length ≤ 7) => some_any (many := l.length) (HS.out.later b) h7 (HP.out.later b) hxl2 (Nat.le_refl _))
  generalize hm : l.length = m at *
  have HM := hid hm
  clear hm
  by_cases hm0 : m = 0
  · subst hm0
    clear HPS TB SF
    go_upto_region 9 with fail
    have C10 := hid (Ready_any (HW.out.later B1.out) hwl2.out n me fo)
    have hno := hid (rdR_no (n := n) (me := me) (fo := fo) (l := wl))
    have TW := hid (fun k => turned_ready (n := n) (me := me) (fo := fo) (rot_perm wl k))
    have hsz := hid (fun h => rdR_size (n := n) (me := me) (fo := fo) (l := wl) h)
    have HWL := hid (fun i (h : i < wl.length) => List.getElem?_eq_getElem h)
    obtain ⟨S1, S2, S3, hS⟩ : ∃ S1 S2 S3, Hid (rdR n me fo wl = (S1, S2, S3)) := ⟨_, _, _, hid rfl⟩
    rw [hS.out] at C10 hno hsz
    by_cases h0 : wl.length = 0 ∨ 7 < wl.length
    · have e := hsz.out (by cases hz : szd n wl.length with | false => rfl | true => (obtain ⟨z1, z2, _⟩ := szd_few hz; omega))
      simp only [Prod.mk.injEq] at e
      obtain ⟨rfl, rfl, rfl⟩ := e
      clear TW hno hsz HWL hS
      generalize wl.length = mw at *
      rcases h0 with h0 | h0
      · subst h0
        go_wp2_with fail
        refine C10.out.mono ?_
        rintro e w9 ⟨rfl, b9⟩
        have B9 := hid (B1.out.trans (b9.mono B1.out.size))
        clear C10 b9
        go_wp2
        go_ret
        exact ⟨rfl, B9.out⟩
      · have h0a : ¬ mw = 0 := by omega
        have h0b : ((mw : Int) == 0) = false := by simpa using h0a
        have h0c : (7 : Int) < (mw : Int) := by omega
        have h0d : decide ((7 : Int) < (mw : Int)) = true := decide_eq_true h0c
        go_wp2_with fail
        refine C10.out.mono ?_
        rintro e w9 ⟨rfl, b9⟩
        have B9 := hid (B1.out.trans (b9.mono B1.out.size))
        clear C10 b9
        go_wp2
        go_ret
        exact ⟨rfl, B9.out⟩
    have h1 : 0 < wl.length := by omega
    have h7 : wl.length ≤ 7 := by omega
    clear h0 hsz
    obtain ⟨k, hk⟩ : ∃ k : Nat, am (R1 + (xs.length : Int)) (wl.length : Int) = (k : Int) ∧ k < wl.length := by
      have q1 := Int.emod_nonneg (R1 + (xs.length : Int)) (b := (wl.length : Int)) (by omega)
      have q2 := Int.emod_lt_of_pos (R1 + (xs.length : Int)) (b := (wl.length : Int)) (by omega)
      refine ⟨((R1 + (xs.length : Int)) % (wl.length : Int)).toNat, ?_, by omega⟩
      unfold am
      rw [if_neg (by omega)]
      omega
    obtain ⟨hk, hkl⟩ := hk
    have C12 := hid (fun w => among_any (w := w) (i := R1 + (xs.length : Int)) (n := (wl.length : Int)) (by omega))
    rw [hk] at C12
    clear hk
    obtain ⟨x0, hx0⟩ : ∃ x, Hid (wl[0]? = some x) := ⟨_, hid (HWL.out 0 h1)⟩
    have hcap := HW.out.cap.1
    obtain ⟨g, o, rfl, hg, _⟩ := HW.out.at (Below.refl _ _) hx0.out
    clear HWL
    generalize hmw : wl.length = mw at *
    have HMW := hid hmw
    clear hmw hx0
    have s1 : ¬ mw = 0 := by omega
    have s1b : ((mw : Int) == 0) = false := by simpa using s1
    have s2 : ¬ (7 : Int) < (mw : Int) := by omega
    have s2b : decide ((7 : Int) < (mw : Int)) = false := decide_eq_false s2
    go_wp2_with fail
    refine C10.out.mono ?_
    rintro e w9 ⟨rfl, b9⟩
    have B9 := hid (B1.out.trans (b9.mono B1.out.size))
    clear C10 b9
    go_wp2_with fail
    refine (C12.out _).mono ?_
    rintro e w10 ⟨rfl, rfl⟩
    obtain ⟨ao1, c1, w11, ao2, c2, w12, hr1, hr2, A12⟩ := rot_any (((All.came w).later B9.out).drew) (HW.out.later (B9.out.drew)) HMW.out h7 hkl
    have HR1 := hid hr1
    have HR2 := hid hr2
    have A12 := hid A12
    have TWk := hid (TW.out k)
    have hno2 := hid (rdR_no (n := n) (me := me) (fo := fo) (l := wl.drop k ++ wl.take k))
    have HTL : Hid ((wl.drop k ++ wl.take k).length = mw) := hid (by rw [(rot_perm wl k).length_eq, HMW.out])
    have C20 := hid (Ready_any A12.out.readsW (by rw [HTL.out]; omega) n me fo)
    generalize wl.drop k ++ wl.take k = tl at *
    obtain ⟨T1, T2, T3, hT⟩ : ∃ T1 T2 T3, Hid (rdR n me fo tl = (T1, T2, T3)) := ⟨_, _, _, hid rfl⟩
    have tw1 := TWk.out.e
    have tw2 := TWk.out.o
    have tw3 := hid TWk.out.ok
    rw [hT.out] at C20 hno2
    rw [hT.out, hS.out] at tw1 tw2 tw3
    try simp only at tw1 tw2
    subst tw1 tw2
    clear hr1 hr2 C12 s1 s1b s2 s2b TW TWk
    have k1 : (0 : Int) ≤ (k : Int) := by omega
    have k2 : (k : Int) ≤ (mw : Int) := by omega
    have k3 : (k : Int) ≤ (wc : Int) := by omega
    have k4 : ¬ wc = k := by omega
    go_upto_region 13 with fail
    go_region_held3 (fun _ => True) (trivial) (first
      | (refine step_append_run (by rfl) _ (.tmp 142) 29 (by rfl) _ _ _ _ (by rfl) (by rfl) HR1.out ?_)
      | (refine step_append_run (by rfl) (.tmp 143) (.tmp 146) 29 (by rfl) _ _ _ _ (by rfl) (by rfl) HR2.out ?_))
    clear HR1 HR2
    go_wp2_with fail
    refine C20.out.mono ?_
    rintro e w20 ⟨rfl, b20⟩
    have A20 := hid (A12.out.later b20)
    clear C20 b20 A12
    have B20 := hid (A20.out.into (w0 := w) (by simp))
    cases T2 with
    | false =>
      have z1 : S1 = 0 := hno.out rfl
      have z2 : T1 = 0 := hno2.out rfl
      subst z1 z2
      clear hno hno2 tw3
      go_wp2
      go_ret
      exact ⟨rfl, B20.out⟩
    | true =>
      obtain ⟨a, b, x, e1, e2, hxa, hxb⟩ := tw3.out rfl
      try simp only at e1 e2
      subst e1 e2
      have hal : a < mw := by have := (List.getElem?_eq_some_iff.1 hxa).1; rw [HMW.out] at this; exact this
      have hbl : b < mw := by have := (List.getElem?_eq_some_iff.1 hxb).1; rw [HTL.out] at this; exact this
      obtain ⟨g', o', eg, _, y0, y1, y2⟩ := HW.out.at B20.out hxa
      cases eg
      obtain ⟨g2, o2, rfl, _, z0, z1, z2⟩ := A20.out.readsW.at (Below.refl _ _) hxb
      clear hno hno2 tw3 hxa hxb
      have EQ := fun w => eq33 x x w
      simp only [decide_true] at EQ
      unfold Wit.V at EQ
      have a1 : (0 : Int) ≤ (a : Int) := by omega
      have a2 : (a : Int) < (mw : Int) := by omega
      have a3 : (0 : Int) ≤ (b : Int) := by omega
      have a4 : (b : Int) < (mw : Int) := by omega
      have a5 : decide ((a : Int) < (mw : Int)) = true := decide_eq_true a2
      have a6 : decide ((b : Int) < (mw : Int)) = true := decide_eq_true a4
      have a7 : a < mw := hal
      have a8 : b < mw := hbl
      go_upto_region 19 with fail
      go_quiet (fail)
      go_wp2
      go_ret
      exact ⟨rfl, B20.out.trans ((bdN w20 nq).mono B20.out.size)⟩
  by_cases hm7 : 7 < m
  · have m1 : (0 : Int) < (m : Int) := by omega
    have m1b : decide ((0 : Int) < (m : Int)) = true := decide_eq_true m1
    have m2 : ¬ (m : Int) ≤ 7 := by omega
    have m2b : decide ((m : Int) ≤ 7) = false := decide_eq_false m2
    clear HPS TB SF
    go_upto_region 9 with fail
    clear m1b m2b
    have C10 := hid (Ready_any (HW.out.later B1.out) hwl2.out n me fo)
    have hno := hid (rdR_no (n := n) (me := me) (fo := fo) (l := wl))
    have TW := hid (fun k => turned_ready (n := n) (me := me) (fo := fo) (rot_perm wl k))
    have hsz := hid (fun h => rdR_size (n := n) (me := me) (fo := fo) (l := wl) h)
    have HWL := hid (fun i (h : i < wl.length) => List.getElem?_eq_getElem h)
    obtain ⟨S1, S2, S3, hS⟩ : ∃ S1 S2 S3, Hid (rdR n me fo wl = (S1, S2, S3)) := ⟨_, _, _, hid rfl⟩
    rw [hS.out] at C10 hno hsz
    by_cases h0 : wl.length = 0 ∨ 7 < wl.length
    · have e := hsz.out (by cases hz : szd n wl.length with | false => rfl | true => (obtain ⟨z1, z2, _⟩ := szd_few hz; omega))
      simp only [Prod.mk.injEq] at e
      obtain ⟨rfl, rfl, rfl⟩ := e
      clear TW hno hsz HWL hS
      generalize wl.length = mw at *
      rcases h0 with h0 | h0
      · subst h0
        go_wp2_with fail
        refine C10.out.mono ?_
        rintro e w9 ⟨rfl, b9⟩
        have B9 := hid (B1.out.trans (b9.mono B1.out.size))
        clear C10 b9
        go_wp2
        go_ret
        exact ⟨rfl, B9.out⟩
      · have h0a : ¬ mw = 0 := by omega
        have h0b : ((mw : Int) == 0) = false := by simpa using h0a
        have h0c : (7 : Int) < (mw : Int) := by omega
        have h0d : decide ((7 : Int) < (mw : Int)) = true := decide_eq_true h0c
        go_wp2_with fail
        refine C10.out.mono ?_
        rintro e w9 ⟨rfl, b9⟩
        have B9 := hid (B1.out.trans (b9.mono B1.out.size))
        clear C10 b9
        go_wp2
        go_ret
        exact ⟨rfl, B9.out⟩
    have h1 : 0 < wl.length := by omega
    have h7 : wl.length ≤ 7 := by omega
    clear h0 hsz
    obtain ⟨k, hk⟩ : ∃ k : Nat, am (R1 + (xs.length : Int)) (wl.length : Int) = (k : Int) ∧ k < wl.length := by
      have q1 := Int.emod_nonneg (R1 + (xs.length : Int)) (b := (wl.length : Int)) (by omega)
      have q2 := Int.emod_lt_of_pos (R1 + (xs.length : Int)) (b := (wl.length : Int)) (by omega)
      refine ⟨((R1 + (xs.length : Int)) % (wl.length : Int)).toNat, ?_, by omega⟩
      unfold am
      rw [if_neg (by omega)]
      omega
    obtain ⟨hk, hkl⟩ := hk
    have C12 := hid (fun w => among_any (w := w) (i := R1 + (xs.length : Int)) (n := (wl.length : Int)) (by omega))
    rw [hk] at C12
    clear hk
    obtain ⟨x0, hx0⟩ : ∃ x, Hid (wl[0]? = some x) := ⟨_, hid (HWL.out 0 h1)⟩
    have hcap := HW.out.cap.1
    obtain ⟨g, o, rfl, hg, _⟩ := HW.out.at (Below.refl _ _) hx0.out
    clear HWL
    generalize hmw : wl.length = mw at *
    have HMW := hid hmw
    clear hmw hx0
    have s1 : ¬ mw = 0 := by omega
    have s1b : ((mw : Int) == 0) = false := by simpa using s1
    have s2 : ¬ (7 : Int) < (mw : Int) := by omega
    have s2b : decide ((7 : Int) < (mw : Int)) = false := decide_eq_false s2
    go_wp2_with fail
    refine C10.out.mono ?_
    rintro e w9 ⟨rfl, b9⟩
    have B9 := hid (B1.out.trans (b9.mono B1.out.size))
    clear C10 b9
    go_wp2_with fail
    refine (C12.out _).mono ?_
    rintro e w10 ⟨rfl, rfl⟩
    obtain ⟨ao1, c1, w11, ao2, c2, w12, hr1, hr2, A12⟩ := rot_any (((All.came w).later B9.out).drew) (HW.out.later (B9.out.drew)) HMW.out h7 hkl
    have HR1 := hid hr1
    have HR2 := hid hr2
    have A12 := hid A12
    have TWk := hid (TW.out k)
    have hno2 := hid (rdR_no (n := n) (me := me) (fo := fo) (l := wl.drop k ++ wl.take k))
    have HTL : Hid ((wl.drop k ++ wl.take k).length = mw) := hid (by rw [(rot_perm wl k).length_eq, HMW.out])
    have C20 := hid (Ready_any A12.out.readsW (by rw [HTL.out]; omega) n me fo)
    generalize wl.drop k ++ wl.take k = tl at *
    obtain ⟨T1, T2, T3, hT⟩ : ∃ T1 T2 T3, Hid (rdR n me fo tl = (T1, T2, T3)) := ⟨_, _, _, hid rfl⟩
    have tw1 := TWk.out.e
    have tw2 := TWk.out.o
    have tw3 := hid TWk.out.ok
    rw [hT.out] at C20 hno2
    rw [hT.out, hS.out] at tw1 tw2 tw3
    try simp only at tw1 tw2
    subst tw1 tw2
    clear hr1 hr2 C12 s1 s1b s2 s2b TW TWk
    have k1 : (0 : Int) ≤ (k : Int) := by omega
    have k2 : (k : Int) ≤ (mw : Int) := by omega
    have k3 : (k : Int) ≤ (wc : Int) := by omega
    have k4 : ¬ wc = k := by omega
    go_upto_region 13 with fail
    go_region_held3 (fun _ => True) (trivial) (first
      | (refine step_append_run (by rfl) _ (.tmp 142) 29 (by rfl) _ _ _ _ (by rfl) (by rfl) HR1.out ?_)
      | (refine step_append_run (by rfl) (.tmp 143) (.tmp 146) 29 (by rfl) _ _ _ _ (by rfl) (by rfl) HR2.out ?_))
    clear HR1 HR2
    go_wp2_with fail
    refine C20.out.mono ?_
    rintro e w20 ⟨rfl, b20⟩
    have A20 := hid (A12.out.later b20)
    clear C20 b20 A12
    have B20 := hid (A20.out.into (w0 := w) (by simp))
    cases T2 with
    | false =>
      have z1 : S1 = 0 := hno.out rfl
      have z2 : T1 = 0 := hno2.out rfl
      subst z1 z2
      clear hno hno2 tw3
      go_wp2
      go_ret
      exact ⟨rfl, B20.out⟩
    | true =>
      obtain ⟨a, b, x, e1, e2, hxa, hxb⟩ := tw3.out rfl
      try simp only at e1 e2
      subst e1 e2
      have hal : a < mw := by have := (List.getElem?_eq_some_iff.1 hxa).1; rw [HMW.out] at this; exact this
      have hbl : b < mw := by have := (List.getElem?_eq_some_iff.1 hxb).1; rw [HTL.out] at this; exact this
      obtain ⟨g', o', eg, _, y0, y1, y2⟩ := HW.out.at B20.out hxa
      cases eg
      obtain ⟨g2, o2, rfl, _, z0, z1, z2⟩ := A20.out.readsW.at (Below.refl _ _) hxb
      clear hno hno2 tw3 hxa hxb
      have EQ := fun w => eq33 x x w
      simp only [decide_true] at EQ
      unfold Wit.V at EQ
      have a1 : (0 : Int) ≤ (a : Int) := by omega
      have a2 : (a : Int) < (mw : Int) := by omega
      have a3 : (0 : Int) ≤ (b : Int) := by omega
      have a4 : (b : Int) < (mw : Int) := by omega
      have a5 : decide ((a : Int) < (mw : Int)) = true := decide_eq_true a2
      have a6 : decide ((b : Int) < (mw : Int)) = true := decide_eq_true a4
      have a7 : a < mw := hal
      have a8 : b < mw := hbl
      go_upto_region 19 with fail
      go_quiet (fail)
      go_wp2
      go_ret
      exact ⟨rfl, B20.out.trans ((bdN w20 nq).mono B20.out.size)⟩
  have m1 : (0 : Int) < (m : Int) := by omega
  have m1b : decide ((0 : Int) < (m : Int)) = true := decide_eq_true m1
  have m2 : (m : Int) ≤ 7 := by omega
  have m2b : decide ((m : Int) ≤ 7) = true := decide_eq_true m2
  have C14 := hid (HPS.out w1 B1.out (by omega))
  have TR := hid (TB.out _ SF.out)
  clear HPS TB
  generalize (smS l xs m).2 = t at *
  have HTL := hid (SF.out.length_eq.trans HM.out)
  clear SF
  go_wp2_with fail
  refine C14.out.mono ?_
  rintro e w2 ⟨ta, tc, rfl, HT, b2⟩
  have HT := hid HT
  have B2 := hid (B1.out.trans (b2.mono B1.out.size))
  clear C14 b2 B1 m1b m2b
  have C9 := hid (Best_any HT.out (by rw [HTL.out]; omega) n)
  obtain ⟨Q1, Q2, Q3, hQ⟩ : ∃ Q1 Q2 Q3, Hid (bsR n t = (Q1, Q2, Q3)) := ⟨_, _, _, hid rfl⟩
  have t1 := TR.out.e
  have t2 := TR.out.c
  have t3 := hid TR.out.ok
  rw [hQ.out] at C9
  rw [hQ.out, hR.out] at t1 t2 t3
  try simp only at t1 t2
  subst t1 t2
  clear TR hQ hR
  go_wp2_with fail
  refine C9.out.mono ?_
  rintro e w3 ⟨rfl, b3⟩
  have B3 := hid (B2.out.trans (b3.mono B2.out.size))
  have b3 := hid b3
  clear C9
  by_cases h3 : Q3 = 0
  · subst h3
    obtain ⟨a, b, x, y, e1, e2, hxa, hyb, e3, e4⟩ := t3.out rfl
    try simp only at e1 e2
    subst e1 e2
    have hal : a < m := by have := (List.getElem?_eq_some_iff.1 hxa).1; rw [HM.out] at this; exact this
    have hbl : b < m := by have := (List.getElem?_eq_some_iff.1 hyb).1; rw [HTL.out] at this; exact this
    obtain ⟨gl, ol, rfl, _, y0, y1, y2, y3⟩ := HS.out.at B3.out hxa
    obtain ⟨gt, ot, rfl, _, z0, z1, z2, z3⟩ := HT.out.at b3.out hyb
    rw [← e3] at z1
    rw [← e4] at z2
    clear e3 e4 hxa hyb t3
    have a1 : (0 : Int) ≤ (a : Int) := by omega
    have a2 : (a : Int) < (m : Int) := by omega
    have a3 : (0 : Int) ≤ (b : Int) := by omega
    have a4 : (b : Int) < (m : Int) := by omega
    have a5 : ¬ (a : Int) < 0 := by omega
    have a6 : ¬ (b : Int) < 0 := by omega
    have a7 : ¬ (m : Int) ≤ (a : Int) := by omega
    have a8 : ¬ (m : Int) ≤ (b : Int) := by omega
    have a7b : decide ((m : Int) ≤ (a : Int)) = false := decide_eq_false a7
    have a8b : decide ((m : Int) ≤ (b : Int)) = false := decide_eq_false a8
    have a7c : decide (m ≤ a) = false := decide_eq_false (by omega)
    have a8c : decide (m ≤ b) = false := decide_eq_false (by omega)
    go_upto_region 7 with fail
    go_quiet (fail)
    have B4 := hid (B3.out.trans ((bdN w3 nq).mono B3.out.size))
    clear y0 y1 y2 y3 z0 z1 z2 z3 a5 a6 a7 a8 a7b a8b a7c a8c
    generalize hw4 : w3.drewN nq = w4 at *
    clear hw4 B3 b3
    generalize hR1 : (a : Int) = R1 at *
    have HR1' := hid hR1
    clear hR1
    go_upto_region 9 with fail
    have C10 := hid (Ready_any (HW.out.later B4.out) hwl2.out n me fo)
    have hno := hid (rdR_no (n := n) (me := me) (fo := fo) (l := wl))
    have TW := hid (fun k => turned_ready (n := n) (me := me) (fo := fo) (rot_perm wl k))
    have hsz := hid (fun h => rdR_size (n := n) (me := me) (fo := fo) (l := wl) h)
    have HWL := hid (fun i (h : i < wl.length) => List.getElem?_eq_getElem h)
    obtain ⟨S1, S2, S3, hS⟩ : ∃ S1 S2 S3, Hid (rdR n me fo wl = (S1, S2, S3)) := ⟨_, _, _, hid rfl⟩
    rw [hS.out] at C10 hno hsz
    by_cases h0 : wl.length = 0 ∨ 7 < wl.length
    · have e := hsz.out (by cases hz : szd n wl.length with | false => rfl | true => (obtain ⟨z1, z2, _⟩ := szd_few hz; omega))
      simp only [Prod.mk.injEq] at e
      obtain ⟨rfl, rfl, rfl⟩ := e
      clear TW hno hsz HWL hS
      generalize wl.length = mw at *
      rcases h0 with h0 | h0
      · subst h0
        go_wp2_with fail
        refine C10.out.mono ?_
        rintro e w9 ⟨rfl, b9⟩
        have B9 := hid (B4.out.trans (b9.mono B4.out.size))
        clear C10 b9
        go_wp2
        go_ret
        exact ⟨rfl, B9.out⟩
      · have h0a : ¬ mw = 0 := by omega
        have h0b : ((mw : Int) == 0) = false := by simpa using h0a
        have h0c : (7 : Int) < (mw : Int) := by omega
        have h0d : decide ((7 : Int) < (mw : Int)) = true := decide_eq_true h0c
        go_wp2_with fail
        refine C10.out.mono ?_
        rintro e w9 ⟨rfl, b9⟩
        have B9 := hid (B4.out.trans (b9.mono B4.out.size))
        clear C10 b9
        go_wp2
        go_ret
        exact ⟨rfl, B9.out⟩
    have h1 : 0 < wl.length := by omega
    have h7 : wl.length ≤ 7 := by omega
    clear h0 hsz
    obtain ⟨k, hk⟩ : ∃ k : Nat, am (R1 + (xs.length : Int)) (wl.length : Int) = (k : Int) ∧ k < wl.length := by
      have q1 := Int.emod_nonneg (R1 + (xs.length : Int)) (b := (wl.length : Int)) (by omega)
      have q2 := Int.emod_lt_of_pos (R1 + (xs.length : Int)) (b := (wl.length : Int)) (by omega)
      refine ⟨((R1 + (xs.length : Int)) % (wl.length : Int)).toNat, ?_, by omega⟩
      unfold am
      rw [if_neg (by omega)]
      omega
    obtain ⟨hk, hkl⟩ := hk
    have C12 := hid (fun w => among_any (w := w) (i := R1 + (xs.length : Int)) (n := (wl.length : Int)) (by omega))
    rw [hk] at C12
    clear hk
    obtain ⟨x0, hx0⟩ : ∃ x, Hid (wl[0]? = some x) := ⟨_, hid (HWL.out 0 h1)⟩
    have hcap := HW.out.cap.1
    obtain ⟨g, o, rfl, hg, _⟩ := HW.out.at (Below.refl _ _) hx0.out
    clear HWL
    generalize hmw : wl.length = mw at *
    have HMW := hid hmw
    clear hmw hx0
    have s1 : ¬ mw = 0 := by omega
    have s1b : ((mw : Int) == 0) = false := by simpa using s1
    have s2 : ¬ (7 : Int) < (mw : Int) := by omega
    have s2b : decide ((7 : Int) < (mw : Int)) = false := decide_eq_false s2
    go_wp2_with fail
    refine C10.out.mono ?_
    rintro e w9 ⟨rfl, b9⟩
    have B9 := hid (B4.out.trans (b9.mono B4.out.size))
    clear C10 b9
    go_wp2_with fail
    refine (C12.out _).mono ?_
    rintro e w10 ⟨rfl, rfl⟩
    obtain ⟨ao1, c1, w11, ao2, c2, w12, hr1, hr2, A12⟩ := rot_any (((All.came w).later B9.out).drew) (HW.out.later (B9.out.drew)) HMW.out h7 hkl
    have HR1 := hid hr1
    have HR2 := hid hr2
    have A12 := hid A12
    have TWk := hid (TW.out k)
    have hno2 := hid (rdR_no (n := n) (me := me) (fo := fo) (l := wl.drop k ++ wl.take k))
    have HTL : Hid ((wl.drop k ++ wl.take k).length = mw) := hid (by rw [(rot_perm wl k).length_eq, HMW.out])
    have C20 := hid (Ready_any A12.out.readsW (by rw [HTL.out]; omega) n me fo)
    generalize wl.drop k ++ wl.take k = tl at *
    obtain ⟨T1, T2, T3, hT⟩ : ∃ T1 T2 T3, Hid (rdR n me fo tl = (T1, T2, T3)) := ⟨_, _, _, hid rfl⟩
    have tw1 := TWk.out.e
    have tw2 := TWk.out.o
    have tw3 := hid TWk.out.ok
    rw [hT.out] at C20 hno2
    rw [hT.out, hS.out] at tw1 tw2 tw3
    try simp only at tw1 tw2
    subst tw1 tw2
    clear hr1 hr2 C12 s1 s1b s2 s2b TW TWk
    have k1 : (0 : Int) ≤ (k : Int) := by omega
    have k2 : (k : Int) ≤ (mw : Int) := by omega
    have k3 : (k : Int) ≤ (wc : Int) := by omega
    have k4 : ¬ wc = k := by omega
    go_upto_region 13 with fail
    go_region_held3 (fun _ => True) (trivial) (first
      | (refine step_append_run (by rfl) _ (.tmp 142) 29 (by rfl) _ _ _ _ (by rfl) (by rfl) HR1.out ?_)
      | (refine step_append_run (by rfl) (.tmp 143) (.tmp 146) 29 (by rfl) _ _ _ _ (by rfl) (by rfl) HR2.out ?_))
    clear HR1 HR2
    go_wp2_with fail
    refine C20.out.mono ?_
    rintro e w20 ⟨rfl, b20⟩
    have A20 := hid (A12.out.later b20)
    clear C20 b20 A12
    have B20 := hid (A20.out.into (w0 := w) (by simp))
    cases T2 with
    | false =>
      have z1 : S1 = 0 := hno.out rfl
      have z2 : T1 = 0 := hno2.out rfl
      subst z1 z2
      clear hno hno2 tw3
      go_wp2
      go_ret
      exact ⟨rfl, B20.out⟩
    | true =>
      obtain ⟨a, b, x, e1, e2, hxa, hxb⟩ := tw3.out rfl
      try simp only at e1 e2
      subst e1 e2
      have hal : a < mw := by have := (List.getElem?_eq_some_iff.1 hxa).1; rw [HMW.out] at this; exact this
      have hbl : b < mw := by have := (List.getElem?_eq_some_iff.1 hxb).1; rw [HTL.out] at this; exact this
      obtain ⟨g', o', eg, _, y0, y1, y2⟩ := HW.out.at B20.out hxa
      cases eg
      obtain ⟨g2, o2, rfl, _, z0, z1, z2⟩ := A20.out.readsW.at (Below.refl _ _) hxb
      clear hno hno2 tw3 hxa hxb
      have EQ := fun w => eq33 x x w
      simp only [decide_true] at EQ
      unfold Wit.V at EQ
      have a1 : (0 : Int) ≤ (a : Int) := by omega
      have a2 : (a : Int) < (mw : Int) := by omega
      have a3 : (0 : Int) ≤ (b : Int) := by omega
      have a4 : (b : Int) < (mw : Int) := by omega
      have a5 : decide ((a : Int) < (mw : Int)) = true := decide_eq_true a2
      have a6 : decide ((b : Int) < (mw : Int)) = true := decide_eq_true a4
      have a7 : a < mw := hal
      have a8 : b < mw := hbl
      go_upto_region 19 with fail
      go_quiet (fail)
      go_wp2
      go_ret
      exact ⟨rfl, B20.out.trans ((bdN w20 nq).mono B20.out.size)⟩
  · have h3b : (Q3 == 0) = false := by simpa using h3
    clear t3
    go_upto_region 7 with fail
    go_quiet (fail)
    have B4 := hid (B3.out.trans ((bdN w3 nq).mono B3.out.size))
    generalize hw4 : w3.drewN nq = w4 at *
    clear hw4 B3 b3
    go_upto_region 9 with fail
    have C10 := hid (Ready_any (HW.out.later B4.out) hwl2.out n me fo)
    have hno := hid (rdR_no (n := n) (me := me) (fo := fo) (l := wl))
    have TW := hid (fun k => turned_ready (n := n) (me := me) (fo := fo) (rot_perm wl k))
    have hsz := hid (fun h => rdR_size (n := n) (me := me) (fo := fo) (l := wl) h)
    have HWL := hid (fun i (h : i < wl.length) => List.getElem?_eq_getElem h)
    obtain ⟨S1, S2, S3, hS⟩ : ∃ S1 S2 S3, Hid (rdR n me fo wl = (S1, S2, S3)) := ⟨_, _, _, hid rfl⟩
    rw [hS.out] at C10 hno hsz
    by_cases h0 : wl.length = 0 ∨ 7 < wl.length
    · have e := hsz.out (by cases hz : szd n wl.length with | false => rfl | true => (obtain ⟨z1, z2, _⟩ := szd_few hz; omega))
      simp only [Prod.mk.injEq] at e
      obtain ⟨rfl, rfl, rfl⟩ := e
      clear TW hno hsz HWL hS
      generalize wl.length = mw at *
      rcases h0 with h0 | h0
      · subst h0
        go_wp2_with fail
        refine C10.out.mono ?_
        rintro e w9 ⟨rfl, b9⟩
        have B9 := hid (B4.out.trans (b9.mono B4.out.size))
        clear C10 b9
        go_wp2
        go_ret
        exact ⟨rfl, B9.out⟩
      · have h0a : ¬ mw = 0 := by omega
        have h0b : ((mw : Int) == 0) = false := by simpa using h0a
        have h0c : (7 : Int) < (mw : Int) := by omega
        have h0d : decide ((7 : Int) < (mw : Int)) = true := decide_eq_true h0c
        go_wp2_with fail
        refine C10.out.mono ?_
        rintro e w9 ⟨rfl, b9⟩
        have B9 := hid (B4.out.trans (b9.mono B4.out.size))
        clear C10 b9
        go_wp2
        go_ret
        exact ⟨rfl, B9.out⟩
    have h1 : 0 < wl.length := by omega
    have h7 : wl.length ≤ 7 := by omega
    clear h0 hsz
    obtain ⟨k, hk⟩ : ∃ k : Nat, am (R1 + (xs.length : Int)) (wl.length : Int) = (k : Int) ∧ k < wl.length := by
      have q1 := Int.emod_nonneg (R1 + (xs.length : Int)) (b := (wl.length : Int)) (by omega)
      have q2 := Int.emod_lt_of_pos (R1 + (xs.length : Int)) (b := (wl.length : Int)) (by omega)
      refine ⟨((R1 + (xs.length : Int)) % (wl.length : Int)).toNat, ?_, by omega⟩
      unfold am
      rw [if_neg (by omega)]
      omega
    obtain ⟨hk, hkl⟩ := hk
    have C12 := hid (fun w => among_any (w := w) (i := R1 + (xs.length : Int)) (n := (wl.length : Int)) (by omega))
    rw [hk] at C12
    clear hk
    obtain ⟨x0, hx0⟩ : ∃ x, Hid (wl[0]? = some x) := ⟨_, hid (HWL.out 0 h1)⟩
    have hcap := HW.out.cap.1
    obtain ⟨g, o, rfl, hg, _⟩ := HW.out.at (Below.refl _ _) hx0.out
    clear HWL
    generalize hmw : wl.length = mw at *
    have HMW := hid hmw
    clear hmw hx0
    have s1 : ¬ mw = 0 := by omega
    have s1b : ((mw : Int) == 0) = false := by simpa using s1
    have s2 : ¬ (7 : Int) < (mw : Int) := by omega
    have s2b : decide ((7 : Int) < (mw : Int)) = false := decide_eq_false s2
    go_wp2_with fail
    refine C10.out.mono ?_
    rintro e w9 ⟨rfl, b9⟩
    have B9 := hid (B4.out.trans (b9.mono B4.out.size))
    clear C10 b9
    go_wp2_with fail
    refine (C12.out _).mono ?_
    rintro e w10 ⟨rfl, rfl⟩
    obtain ⟨ao1, c1, w11, ao2, c2, w12, hr1, hr2, A12⟩ := rot_any (((All.came w).later B9.out).drew) (HW.out.later (B9.out.drew)) HMW.out h7 hkl
    have HR1 := hid hr1
    have HR2 := hid hr2
    have A12 := hid A12
    have TWk := hid (TW.out k)
    have hno2 := hid (rdR_no (n := n) (me := me) (fo := fo) (l := wl.drop k ++ wl.take k))
    have HTL : Hid ((wl.drop k ++ wl.take k).length = mw) := hid (by rw [(rot_perm wl k).length_eq, HMW.out])
    have C20 := hid (Ready_any A12.out.readsW (by rw [HTL.out]; omega) n me fo)
    generalize wl.drop k ++ wl.take k = tl at *
    obtain ⟨T1, T2, T3, hT⟩ : ∃ T1 T2 T3, Hid (rdR n me fo tl = (T1, T2, T3)) := ⟨_, _, _, hid rfl⟩
    have tw1 := TWk.out.e
    have tw2 := TWk.out.o
    have tw3 := hid TWk.out.ok
    rw [hT.out] at C20 hno2
    rw [hT.out, hS.out] at tw1 tw2 tw3
    try simp only at tw1 tw2
    subst tw1 tw2
    clear hr1 hr2 C12 s1 s1b s2 s2b TW TWk
    have k1 : (0 : Int) ≤ (k : Int) := by omega
    have k2 : (k : Int) ≤ (mw : Int) := by omega
    have k3 : (k : Int) ≤ (wc : Int) := by omega
    have k4 : ¬ wc = k := by omega
    go_upto_region 13 with fail
    go_region_held3 (fun _ => True) (trivial) (first
      | (refine step_append_run (by rfl) _ (.tmp 142) 29 (by rfl) _ _ _ _ (by rfl) (by rfl) HR1.out ?_)
      | (refine step_append_run (by rfl) (.tmp 143) (.tmp 146) 29 (by rfl) _ _ _ _ (by rfl) (by rfl) HR2.out ?_))
    clear HR1 HR2
    go_wp2_with fail
    refine C20.out.mono ?_
    rintro e w20 ⟨rfl, b20⟩
    have A20 := hid (A12.out.later b20)
    clear C20 b20 A12
    have B20 := hid (A20.out.into (w0 := w) (by simp))
    cases T2 with
    | false =>
      have z1 : S1 = 0 := hno.out rfl
      have z2 : T1 = 0 := hno2.out rfl
      subst z1 z2
      clear hno hno2 tw3
      go_wp2
      go_ret
      exact ⟨rfl, B20.out⟩
    | true =>
      obtain ⟨a, b, x, e1, e2, hxa, hxb⟩ := tw3.out rfl
      try simp only at e1 e2
      subst e1 e2
      have hal : a < mw := by have := (List.getElem?_eq_some_iff.1 hxa).1; rw [HMW.out] at this; exact this
      have hbl : b < mw := by have := (List.getElem?_eq_some_iff.1 hxb).1; rw [HTL.out] at this; exact this
      obtain ⟨g', o', eg, _, y0, y1, y2⟩ := HW.out.at B20.out hxa
      cases eg
      obtain ⟨g2, o2, rfl, _, z0, z1, z2⟩ := A20.out.readsW.at (Below.refl _ _) hxb
      clear hno hno2 tw3 hxa hxb
      have EQ := fun w => eq33 x x w
      simp only [decide_true] at EQ
      unfold Wit.V at EQ
      have a1 : (0 : Int) ≤ (a : Int) := by omega
      have a2 : (a : Int) < (mw : Int) := by omega
      have a3 : (0 : Int) ≤ (b : Int) := by omega
      have a4 : (b : Int) < (mw : Int) := by omega
      have a5 : decide ((a : Int) < (mw : Int)) = true := decide_eq_true a2
      have a6 : decide ((b : Int) < (mw : Int)) = true := decide_eq_true a4
      have a7 : a < mw := hal
      have a8 : b < mw := hbl
      go_upto_region 19 with fail
      go_quiet (fail)
      go_wp2
      go_ret
      exact ⟨rfl, B20.out.trans ((bdN w20 nq).mono B20.out.size)⟩
end Go.Proofs.Ytjnbnmlggbfodaa

import Derived.Test.YtphcfkfdkaphbaaRefC
namespace Go.Proofs.Ytphcfkfdkaphbaa
open Go.RowKit
set_option linter.unusedVariables false

set_option maxRecDepth 1000000 in
theorem RCancel_no {P : Nat} {v : Value} {ts : List Tm} {cs : List Comp} {w : World} (h : All (refC P v ts :: cs) w) (hl : ts.length ≤ 1048576) (t : ByteArray) (k : Int) (hp : placeT t k ts 0 < 0) : Calls Try.prog 17 #[.pointer (some ⟨P, 0, none⟩), .agg #[.string t, .int .i64 k]] w fun e w' => e = .returned (.bool false) ∧ All (refC P v ts :: cs) w' := by
  have h1 := h.later (ba w (.cells #[.string t, .int .i64 k] 50))
  have HP := hid (place_any h1.1.2.1.1 h1.1.2.1.2 hl t k)
  have H1 := hid h1
  clear h h1
  go_enter Try.func17, Try.ntmps17
  go_wp2_with fail
  refine HP.out.mono ?_
  rintro e w1 ⟨rfl, hb1⟩
  have H2 := hid (H1.out.later hb1)
  clear hb1 H1 HP
  go_wp2
  go_ret
  exact ⟨rfl, H2.out⟩

theorem RArm_ticks {P : Nat} {w : World} (t : ByteArray) (k : Int) {m : Int} (hm : m < 1 ∨ 1024 < m) : Calls Try.prog 19 #[.pointer (some ⟨P, 0, none⟩), .agg #[.string t, .int .i64 k], .int .i64 m] w fun e w' => e = .returned (.int .i64 30) ∧ Below w.heap.size w w' := by
  have HB := hid (ba w (.cells #[.string t, .int .i64 k] 50))
  by_cases h1 : m < 1
  · clear hm
    go_enter Try.func19, Try.ntmps19
    go_wp2
    go_ret
    exact ⟨rfl, HB.out⟩
  · have h2 : 1024 < m := by omega
    clear hm
    go_enter Try.func19, Try.ntmps19
    go_wp2
    go_ret
    exact ⟨rfl, HB.out⟩

theorem flatT_set : ∀ (ts : List Tm) (i : Nat) (x : Tm) (m : Int), ts[i]? = some x → (flatT ts).set (i * 3 + 2) (.int .i64 m) = flatT (ts.set i { x with l := m })
  | [], i, x, m, h => by simp at h
  | a :: r, 0, x, m, h => by
    obtain rfl : a = x := by simpa using h
    rfl
  | a :: r, i + 1, x, m, h => by
    have ih := flatT_set r i x m (by simpa using h)
    have e1 : flatT (a :: r) = a.cells ++ flatT r := rfl
    have e2 : flatT ((a :: r).set (i + 1) { x with l := m }) = a.cells ++ flatT (r.set i { x with l := m }) := rfl
    rw [e1, e2, ← ih, List.set_append, if_neg (by simp [Tm.cells]; omega)]
    congr 2
    simp [Tm.cells]; omega

/-- One timer is left something else. -/
theorem All.refLeft {P g n c i : Nat} {ts : List Tm} {x : Tm} {cs : List Comp} {w : World} (h : All (refC P (.slice (some ⟨g, 0, none⟩) n c) ts :: cs) w) (hx : ts[i]? = some x) (m : Int) : All (refC P (.slice (some ⟨g, 0, none⟩) n c) (ts.set i { x with l := m }) :: cs) (w.setCell ⟨g, i * 3 + 2, none⟩ (.int .i64 m)) := by
  have hne := refC_ne h
  have hgP : P ≠ g := by intro e; exact hne (by simp [Value.ownBlock, e])
  obtain ⟨h1, h2⟩ : w.heap[P]? = some (.cells #[.slice (some ⟨g, 0, none⟩) n c] 30 (0, 0)) ∧ w.ownsRow 0 101 3 (.slice (some ⟨g, 0, none⟩) n c) ts.length (flatT ts) := h.1.2.1
  refine h.turn ((Fr.setCell w g (i * 3 + 2) _).mono (fun k hk => by simp at hk; subst hk; simp [refC, Value.ownBlock])) (refC_good _ _ _) ⟨(Below.heap_setCell w ⟨g, i * 3 + 2, none⟩ _ P hgP).trans h1, ?_⟩ (fun k hk => Or.inl hk) (fun k hk => by have := h.1.2.2 k hk; simpa [World.setCell] using this)
  refine ⟨by rw [← flatT_set ts i x m hx]; simpa using h2.1, ?_⟩
  rcases h2.2 with ⟨e, _⟩ | ⟨g', cap, cur, e, hg, hgg, hn, hm, hcs, ht⟩
  · simp at e
  · simp only [Value.slice.injEq, Option.some.injEq, Addr.mk.injEq] at e
    obtain ⟨⟨rfl, _⟩, rfl, rfl⟩ := e
    refine Or.inr ⟨g, c, cur.setIfInBounds (i * 3 + 2) (.int .i64 m), by simp, hg, heap_setCell_same hgg _, by simpa using hn, hm, by simpa using hcs, ?_⟩
    rw [Array.toList_setIfInBounds, List.length_set, List.take_set, ht, flatT_set ts i x m hx]

set_option maxRecDepth 1000000 in
theorem RArm_there {P p : Nat} {v : Value} {ts : List Tm} {x : Tm} {cs : List Comp} {w : World} (h : All (refC P v ts :: cs) w) (hl : ts.length ≤ 1048576) (t : ByteArray) (k : Int) {m : Int} (h1 : 1 ≤ m) (h2 : m ≤ 1024) (hp : placeT t k ts 0 = p) (hx : ts[p]? = some x) : Calls Try.prog 19 #[.pointer (some ⟨P, 0, none⟩), .agg #[.string t, .int .i64 k], .int .i64 m] w fun e w' => e = .returned (.int .i64 0) ∧ All (refC P v (ts.set p { x with l := m }) :: cs) w' := by
  have hb1 := h.later (ba w (.cells #[.string t, .int .i64 k] 50))
  have HP := hid (place_any hb1.1.2.1.1 hb1.1.2.1.2 hl t k)
  obtain ⟨ao, c, hv⟩ := owns_form hb1.1.2.1.2
  subst hv
  obtain ⟨g, hao, _⟩ := row3_cells hb1.1.2.1.2 hx
  subst hao
  have hpn := (List.getElem?_eq_some_iff.1 hx).1
  have hpi : (p : Int) < ts.length := by omega
  have H1 := hid hb1
  have hpp := hid hp
  have HX := hid hx
  clear h hb1 hp hx
  go_enter Try.func19, Try.ntmps19
  go_wp2_with fail
  refine HP.out.mono ?_
  rintro e w1 ⟨rfl, hb1⟩
  have hA := H1.out.later hb1
  have cP : w1.cell? ⟨P, 0, none⟩ = some (.slice (some ⟨g, 0, none⟩) ts.length c) := by rw [cell_at hA.1.2.1.1]; rfl
  obtain ⟨g2, e2, hg2, x0, x1, x2⟩ := row3_cells hA.1.2.1.2 HX.out
  obtain rfl : g = g2 := by simpa using e2
  have fg : w1.frozen? ⟨g, p * 3 + 2, none⟩ = false := by
    rcases hA.1.2.1.2.2 with ⟨e, _⟩ | ⟨g', cap, cur, e, hg, hgg, _⟩
    · simp at e
    · simp only [Value.slice.injEq, Option.some.injEq, Addr.mk.injEq] at e
      obtain ⟨⟨rfl, _⟩, _⟩ := e
      exact free_at hgg _
  rw [hpp.out]
  have H2 := hid hA
  clear hb1 H1 HP hA hpp e2 x0 x1 hg2
  go_wp2
  go_ret
  exact ⟨rfl, H2.out.refLeft HX.out m⟩

set_option maxRecDepth 1000000 in
theorem RArm_full {P : Nat} {v : Value} {ts : List Tm} {cs : List Comp} {w : World} (h : All (refC P v ts :: cs) w) (hl : ts.length ≤ 1048576) (t : ByteArray) (k : Int) {m : Int} (h1 : 1 ≤ m) (h2 : m ≤ 1024) (hp : placeT t k ts 0 < 0) (h32 : 32 ≤ ts.length) : Calls Try.prog 19 #[.pointer (some ⟨P, 0, none⟩), .agg #[.string t, .int .i64 k], .int .i64 m] w fun e w' => e = .returned (.int .i64 31) ∧ All (refC P v ts :: cs) w' := by
  have hb1 := h.later (ba w (.cells #[.string t, .int .i64 k] 50))
  have HP := hid (place_any hb1.1.2.1.1 hb1.1.2.1.2 hl t k)
  obtain ⟨ao, c, hv⟩ := owns_form hb1.1.2.1.2
  subst hv
  have h32i : (32 : Int) ≤ ts.length := by omega
  have H1 := hid hb1
  clear h hb1
  go_enter Try.func19, Try.ntmps19
  go_wp2_with fail
  refine HP.out.mono ?_
  rintro e w1 ⟨rfl, hb1⟩
  have hA := H1.out.later hb1
  have cP : w1.cell? ⟨P, 0, none⟩ = some (.slice ao ts.length c) := by rw [cell_at hA.1.2.1.1]; rfl
  have H2 := hid hA
  clear hb1 H1 HP hA
  go_wp2
  go_ret
  exact ⟨rfl, H2.out⟩

/-- How a timer finds its place. -/
def insS (y : Tm) (s : List Tm × Bool) (x : Tm) : List Tm × Bool := if s.2 = false ∧ bef y.t x.t y.k x.k = true then (s.1 ++ [y, x], true) else (s.1 ++ [x], s.2)
def insT (y : Tm) (ts : List Tm) : List Tm := if (ts.foldl (insS y) ([], false)).2 then (ts.foldl (insS y) ([], false)).1 else (ts.foldl (insS y) ([], false)).1 ++ [y]
theorem ins_step (y : Tm) {ts : List Tm} {i : Nat} {x : Tm} (hx : ts[i]? = some x) : (ts.take (i + 1)).foldl (insS y) ([], false) = insS y ((ts.take i).foldl (insS y) ([], false)) x := by
  rw [List.take_add_one, hx, List.foldl_append]; rfl
theorem ins_len (y : Tm) : ∀ (ts : List Tm) (s : List Tm × Bool), (ts.foldl (insS y) s).1.length ≤ s.1.length + 2 * ts.length
  | [], s => by simp
  | x :: r, s => by
    have := ins_len y r (insS y s x)
    have h2 : (insS y s x).1.length ≤ s.1.length + 2 := by unfold insS; split <;> simp
    simp only [List.foldl_cons, List.length_cons]; omega

set_option maxHeartbeats 3200000 in
set_option maxRecDepth 1000000 in
theorem RArm_new {P : Nat} {v : Value} {ts : List Tm} {cs : List Comp} {w : World} (h : All (refC P v ts :: cs) w) (t : ByteArray) (k : Int) {m : Int} (h1 : 1 ≤ m) (h2 : m ≤ 1024) (hp : placeT t k ts 0 < 0) (h32 : ts.length < 32) : Calls Try.prog 19 #[.pointer (some ⟨P, 0, none⟩), .agg #[.string t, .int .i64 k], .int .i64 m] w fun e w' => ∃ v', e = .returned (.int .i64 0) ∧ All (refC P v' (insT ⟨t, k, m⟩ ts) :: cs) w' := by
  obtain ⟨i1, hi1, hz0, hz1, hz2⟩ := info_parts Try.info101
  have hb1 := h.later (ba w (.cells #[.string t, .int .i64 k] 50))
  have hK := (h.addBlk [.string t, .int .i64 k] 50)
  have HP := hid (place_any hb1.1.2.1.1 hb1.1.2.1.2 (by omega) t k)
  obtain ⟨ao, c, hv⟩ := owns_form hb1.1.2.1.2
  subst hv
  have h32i : (ts.length : Int) < 32 := by omega
  have H1 := hid hK
  clear h hb1 hK
  go_enter Try.func19, Try.ntmps19
  go_wp2_with fail
  refine HP.out.mono ?_
  rintro e w1 ⟨rfl, hb1⟩
  have hA := H1.out.later hb1
  have cP : w1.cell? ⟨P, 0, none⟩ = some (.slice ao ts.length c) := by rw [cell_at hA.2.2.1.2.1.1]; rfl
  have H2 := hid (hA.addRow0 (e := 101) (size := 3))
  clear hb1 H1 HP hA
  go_wp2
  go_loopw [8, 9, 42] (fun ov lv iv wr => ∃ (i : Nat) (outs : List Tm) (laid : Bool), i ≤ ts.length ∧ iv = .int .i64 (i : Int) ∧ lv = .bool laid ∧ Hid ((ts.take i).foldl (insS ⟨t, k, m⟩) ([], false) = (outs, laid)) ∧ Hid (All (rowC 101 3 ov outs.length (flatT outs) :: blkC w.heap.size [.string t, .int .i64 k] 50 :: refC P (.slice ao ts.length c) ts :: cs) wr)) (fun _ _ iv _ => ts.length - (intOf iv).toNat)
  case atStart => exact ⟨0, [], false, by omega, rfl, rfl, hid rfl, H2⟩
  case round =>
    clear H2 cP
    obtain ⟨i, outs, laid, hi, rfl, rfl, HO, HA⟩ := hrel
    obtain ⟨oo, oc, rfl⟩ := owns_form HA.out.1.2.1
    have hol : outs.length ≤ 64 := by
      have := ins_len ⟨t, k, m⟩ (ts.take i) ([], false)
      rw [HO.out] at this
      simp at this; omega
    by_cases hlt : i < ts.length
    · have hlti : (i : Int) < ts.length := by omega
      obtain ⟨x, hx⟩ : ∃ x, ts[i]? = some x := ⟨_, List.getElem?_eq_getElem hlt⟩
      have HR : wr.ownsRow 0 101 3 (.slice ao ts.length c) ts.length (flatT ts) := (HA.out.mem (c := refC P (.slice ao ts.length c) ts) (by simp)).2.1.2
      obtain ⟨g, hao, hg, x0, x1, x2⟩ := row3_cells HR hx
      subst hao
      have he := ins_step ⟨t, k, m⟩ hx
      rw [HO.out] at he
      have hkey := HA.out.blk (g := w.heap.size) (vs := [.string t, .int .i64 k]) (t := 50) (by simp)
      have hkl := (Array.getElem?_eq_some_iff.1 hkey).1
      have A1 := HA.out.addBlk x.cells 101
      cases laid with
      | true =>
        have he2 : insS ⟨t, k, m⟩ (outs, true) x = (outs ++ [x], true) := by simp [insS]
        rw [he2] at he
        have HE := hid he
        have A2 := hid (A1.alloc (.cells #[.string x.t, .int .i64 x.k, .int .i64 x.l] 101))
        have hrow : ((wr.alloc (.cells #[.string x.t, .int .i64 x.k, .int .i64 x.l] 101)).alloc (.cells #[.string x.t, .int .i64 x.k, .int .i64 x.l] 101)).ownsRow 0 101 3 (.slice oo outs.length oc) outs.length (flatT outs) := (A2.out.mem (c := rowC 101 3 (.slice oo outs.length oc) outs.length (flatT outs)) (by simp)).2.1
        clear he he2 hx A1 HR hkey
        go_wp2_with (at_builtin; refine wpList_append_own_at _ rfl (.tmp 60) (.tmp 62) 28 rfl 0 101 i1 (.agg #[.string ⟨#[]⟩, .int .i64 0, .int .i64 0]) 3 32 Try.underlying28 hi1 hz0 hz1 hz2 rfl (by decide) _ _ _ rfl hrow ⟨wr.heap.size + 1, 0, none⟩ 1 1 x.cells rfl rfl (by have := cells3 (wr.alloc (.cells #[.string x.t, .int .i64 x.k, .int .i64 x.l] 101)) x 101; simpa using this) (cells_one _) (by unfold maxLen; omega) (by omega) (by omega) ?_; intro ov' w3 hown hgr hnil hat')
        have A3 := hid (A2.out.tail.rowGrow (vs' := flatT (outs ++ [x])) (n' := (outs ++ [x]).length) (by rw [flatT_append, List.length_append]; simpa [flatT] using hown) hgr hat')
        clear hown hgr hnil hat' hrow A2
        go_wp2
        go_roundw
        case rel => exact ⟨i + 1, outs ++ [x], true, by omega, by go_num, rfl, HE, A3⟩
        case measure => simp [intOf]; omega
      | false =>
        have HBF := hid (fun W => before_any (w := W) t x.t k x.k)
        have n0 : (wr.alloc (.cells #[.string x.t, .int .i64 x.k, .int .i64 x.l] 101)).cell? ⟨w.heap.size, 0, none⟩ = some (.string t) := by rw [cell_at ((Below.heap_alloc wr _ _ hkl).trans hkey)]; rfl
        have n1 : (wr.alloc (.cells #[.string x.t, .int .i64 x.k, .int .i64 x.l] 101)).cell? ⟨w.heap.size, 1, none⟩ = some (.int .i64 k) := by rw [cell_at ((Below.heap_alloc wr _ _ hkl).trans hkey)]; rfl
        have k0 : wr.cell? ⟨w.heap.size, 0, none⟩ = some (.string t) := by rw [cell_at hkey]; rfl
        have k1 : wr.cell? ⟨w.heap.size, 1, none⟩ = some (.int .i64 k) := by rw [cell_at hkey]; rfl
        have HA1 := hid A1
        clear hx A1 HR hkey n0 n1
        go_wp2_with fail
        refine (HBF.out _).mono ?_
        rintro e w2 ⟨rfl, hb2⟩
        have A2 := (HA1.out.later hb2).swap
        clear hb2 HA1 k0 k1 x0 x1 x2
        obtain ⟨bb, hbb⟩ : ∃ bb, bef t x.t k x.k = bb := ⟨_, rfl⟩
        rw [hbb]
        have hxb := A2.blk (g := wr.heap.size) (vs := x.cells) (t := 101) (by simp)
        cases bb with
        | true =>
          have he2 : insS ⟨t, k, m⟩ (outs, false) x = (outs ++ [⟨t, k, m⟩, x], true) := by simp [insS, hbb]
          rw [he2] at he
          have HE := hid he
          have hkey := A2.blk (g := w.heap.size) (vs := [.string t, .int .i64 k]) (t := 50) (by simp)
          have k0 : w2.cell? ⟨w.heap.size, 0, none⟩ = some (.string t) := by rw [cell_at hkey]; rfl
          have k1 : w2.cell? ⟨w.heap.size, 1, none⟩ = some (.int .i64 k) := by rw [cell_at hkey]; rfl
          have A3 := A2.alloc (.cells #[.string t, .int .i64 k, .int .i64 m] 101)
          have hrow : (w2.alloc (.cells #[.string t, .int .i64 k, .int .i64 m] 101)).ownsRow 0 101 3 (.slice oo outs.length oc) outs.length (flatT outs) := A3.1.2.1
          have A3 := hid A3
          clear he he2 hbb A2 hxb hkey
          go_wp2_with (first | (at_builtin; refine wpList_append_own_at _ rfl (.tmp 54) (.tmp 58) 28 rfl 0 101 i1 (.agg #[.string ⟨#[]⟩, .int .i64 0, .int .i64 0]) 3 32 Try.underlying28 hi1 hz0 hz1 hz2 rfl (by decide) _ _ _ rfl hrow ⟨w2.heap.size, 0, none⟩ 1 1 (Tm.cells ⟨t, k, m⟩) rfl rfl (cells3 w2 ⟨t, k, m⟩ 101) (cells_one _) (by unfold maxLen; omega) (by omega) (by omega) ?_; intro ov' w3 hown hgr hnil hat'; have A4 := A3.out.rowGrow (vs' := flatT (outs ++ [(⟨t, k, m⟩ : Tm)])) (n' := (outs ++ [(⟨t, k, m⟩ : Tm)]).length) (by rw [flatT_append, List.length_append]; simpa [flatT] using hown) hgr hat'; clear hown hgr hnil hat' hrow A3 k0 k1; obtain ⟨oo2, oc2, hv2⟩ := owns_form A4.1.2.1; subst hv2; have hxb := A4.blk (g := wr.heap.size) (vs := x.cells) (t := 101) (by simp); have c0 : w3.cell? ⟨wr.heap.size, 0, none⟩ = some (.string x.t) := (by rw [cell_at hxb]; rfl); have c1 : w3.cell? ⟨wr.heap.size, 1, none⟩ = some (.int .i64 x.k) := (by rw [cell_at hxb]; rfl); have c2 : w3.cell? ⟨wr.heap.size, 2, none⟩ = some (.int .i64 x.l) := (by rw [cell_at hxb]; rfl); have hol2 : (outs ++ [(⟨t, k, m⟩ : Tm)]).length ≤ 65 := (by simp; omega); generalize hoo : outs ++ [(⟨t, k, m⟩ : Tm)] = outs2 at A4 hol2 ⊢; have HOO := hid hoo; have A5 := A4.alloc (.cells #[.string x.t, .int .i64 x.k, .int .i64 x.l] 101); have hrow : (w3.alloc (.cells #[.string x.t, .int .i64 x.k, .int .i64 x.l] 101)).ownsRow 0 101 3 (.slice oo2 outs2.length oc2) outs2.length (flatT outs2) := A5.1.2.1; have A5 := hid A5; clear A4 hxb hoo) | (at_builtin; refine wpList_append_own_at _ rfl (.tmp 60) (.tmp 62) 28 rfl 0 101 i1 (.agg #[.string ⟨#[]⟩, .int .i64 0, .int .i64 0]) 3 32 Try.underlying28 hi1 hz0 hz1 hz2 rfl (by decide) _ _ _ rfl hrow ⟨w3.heap.size, 0, none⟩ 1 1 x.cells rfl rfl (cells3 w3 x 101) (cells_one _) (by unfold maxLen; omega) (by omega) (by omega) ?_; intro ov2' w4 hown hgr hnil hat'))
          have A6 := hid (A5.out.rowGrow (vs' := flatT (outs2 ++ [x])) (n' := (outs2 ++ [x]).length) (by rw [flatT_append, List.length_append]; simpa [flatT] using hown) hgr hat')
          clear hown hgr hnil hat' hrow A5
          go_wp2
          go_roundw
          case rel =>
            refine ⟨i + 1, outs2 ++ [x], true, by omega, by go_num, rfl, hid (HE.out.trans (by rw [← HOO.out]; simp)), hid ?_⟩
            exact ((A6.out.perm (List.Perm.swap _ _ _)).tail)
          case measure => simp [intOf]; omega
        | false =>
          have he2 : insS ⟨t, k, m⟩ (outs, false) x = (outs ++ [x], false) := by simp [insS, hbb]
          rw [he2] at he
          have HE := hid he
          have c0 : w2.cell? ⟨wr.heap.size, 0, none⟩ = some (.string x.t) := by rw [cell_at hxb]; rfl
          have c1 : w2.cell? ⟨wr.heap.size, 1, none⟩ = some (.int .i64 x.k) := by rw [cell_at hxb]; rfl
          have c2 : w2.cell? ⟨wr.heap.size, 2, none⟩ = some (.int .i64 x.l) := by rw [cell_at hxb]; rfl
          have A5 := A2.alloc (.cells #[.string x.t, .int .i64 x.k, .int .i64 x.l] 101)
          have hrow : (w2.alloc (.cells #[.string x.t, .int .i64 x.k, .int .i64 x.l] 101)).ownsRow 0 101 3 (.slice oo outs.length oc) outs.length (flatT outs) := A5.1.2.1
          have A5 := hid A5
          clear he he2 hbb A2 hxb
          go_wp2_with (at_builtin; refine wpList_append_own_at _ rfl (.tmp 60) (.tmp 62) 28 rfl 0 101 i1 (.agg #[.string ⟨#[]⟩, .int .i64 0, .int .i64 0]) 3 32 Try.underlying28 hi1 hz0 hz1 hz2 rfl (by decide) _ _ _ rfl hrow ⟨w2.heap.size, 0, none⟩ 1 1 x.cells rfl rfl (cells3 w2 x 101) (cells_one _) (by unfold maxLen; omega) (by omega) (by omega) ?_; intro ov' w3 hown hgr hnil hat')
          have A6 := hid (A5.out.rowGrow (vs' := flatT (outs ++ [x])) (n' := (outs ++ [x]).length) (by rw [flatT_append, List.length_append]; simpa [flatT] using hown) hgr hat')
          clear hown hgr hnil hat' hrow A5
          go_wp2
          go_roundw
          case rel => exact ⟨i + 1, outs ++ [x], false, by omega, by go_num, rfl, HE, hid ((A6.out.perm (List.Perm.swap _ _ _)).tail)⟩
          case measure => simp [intOf]; omega
    · have hlti : decide ((i : Int) < ts.length) = false := decide_eq_false (by omega)
      have hlti2 : decide (i < ts.length) = false := decide_eq_false (by omega)
      have hfin := HO.out
      rw [List.take_of_length_le (by omega)] at hfin
      cases laid with
      | true =>
        have HF := hid (show insT ⟨t, k, m⟩ ts = outs by unfold insT; rw [hfin]; rfl)
        have A1 := HA.out.perm (ds := rowC 101 3 (.slice oo outs.length oc) outs.length (flatT outs) :: refC P (.slice ao ts.length c) ts :: blkC w.heap.size [.string t, .int .i64 k] 50 :: cs) (.cons _ (.swap _ _ _))
        have cP := cell_at A1.2.2.1.2.1.1 0
        have fP := free_at A1.2.2.1.2.1.1 0
        simp only [List.getElem?_toArray, List.getElem?_cons_zero] at cP
        have A1 := hid A1
        clear hfin
        go_wp2
        go_ret
        refine ⟨.slice oo outs.length oc, rfl, ?_⟩
        rw [HF.out]
        exact A1.out.refSet.swap.tail
      | false =>
        have HF := hid (show insT ⟨t, k, m⟩ ts = outs ++ [⟨t, k, m⟩] by unfold insT; rw [hfin]; rfl)
        have hkey := HA.out.blk (g := w.heap.size) (vs := [.string t, .int .i64 k]) (t := 50) (by simp)
        have k0 : wr.cell? ⟨w.heap.size, 0, none⟩ = some (.string t) := by rw [cell_at hkey]; rfl
        have k1 : wr.cell? ⟨w.heap.size, 1, none⟩ = some (.int .i64 k) := by rw [cell_at hkey]; rfl
        have A3 := HA.out.alloc (.cells #[.string t, .int .i64 k, .int .i64 m] 101)
        have hrow : (wr.alloc (.cells #[.string t, .int .i64 k, .int .i64 m] 101)).ownsRow 0 101 3 (.slice oo outs.length oc) outs.length (flatT outs) := A3.1.2.1
        have A3 := hid A3
        clear hfin hkey
        go_wp2_with (at_builtin; refine wpList_append_own_at _ rfl (.tmp 67) (.tmp 71) 28 rfl 0 101 i1 (.agg #[.string ⟨#[]⟩, .int .i64 0, .int .i64 0]) 3 32 Try.underlying28 hi1 hz0 hz1 hz2 rfl (by decide) _ _ _ rfl hrow ⟨wr.heap.size, 0, none⟩ 1 1 (Tm.cells ⟨t, k, m⟩) rfl rfl (cells3 wr ⟨t, k, m⟩ 101) (cells_one _) (by unfold maxLen; omega) (by omega) (by omega) ?_; intro ov' w3 hown hgr hnil hat'; have A4 := A3.out.rowGrow (vs' := flatT (outs ++ [(⟨t, k, m⟩ : Tm)])) (n' := (outs ++ [(⟨t, k, m⟩ : Tm)]).length) (by rw [flatT_append, List.length_append]; simpa [flatT] using hown) hgr hat'; have A1 := A4.perm (ds := rowC 101 3 ov' (outs ++ [(⟨t, k, m⟩ : Tm)]).length (flatT (outs ++ [⟨t, k, m⟩])) :: refC P (.slice ao ts.length c) ts :: blkC w.heap.size [.string t, .int .i64 k] 50 :: cs) (.cons _ (.swap _ _ _)); obtain ⟨oo2, oc2, hv2⟩ := owns_form A1.1.2.1; subst hv2; have cP := cell_at A1.2.2.1.2.1.1 0; have fP := free_at A1.2.2.1.2.1.1 0; simp only [List.getElem?_toArray, List.getElem?_cons_zero] at cP; have A1 := hid A1; clear hown hgr hnil hat' hrow A3 k0 k1 A4)
        go_ret
        refine ⟨.slice oo2 (outs ++ [(⟨t, k, m⟩ : Tm)]).length oc2, rfl, ?_⟩
        rw [HF.out]
        have hfin := A1.out.refSet.swap.tail
        rw [show (outs ++ [(⟨t, k, m⟩ : Tm)]).length = outs.length + 1 by simp] at hfin ⊢
        exact hfin
end Go.Proofs.Ytphcfkfdkaphbaa

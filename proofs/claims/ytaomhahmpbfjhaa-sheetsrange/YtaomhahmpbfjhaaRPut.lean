import Derived.Test.YtaomhahmpbfjhaaRefB
namespace Go.Proofs.Ytaomhahmpbfjhaa
open Go.RowKit
set_option linter.unusedVariables false

theorem All.setRow1 {e : TypeId} {size n g c k : Nat} {vs : List Value} {cs : List Comp} {w : World} (h : All (rowC e size (.slice (some ⟨g, 0, none⟩) n c) n vs :: cs) w) (hk : k < vs.length) (u : Value) : All (rowC e size (.slice (some ⟨g, 0, none⟩) n c) n (vs.set k u) :: cs) (w.setCell ⟨g, k, none⟩ u) := by
  have ho : w.ownsRow 0 e size (.slice (some ⟨g, 0, none⟩) n c) n vs := h.1.2.1
  refine h.turn ((Fr.setCell w g k u).mono (fun x hx => by simpa [rowC, Value.ownBlock] using hx)) (rowC_good _ _ _ _ _) ?_ (fun x hx => Or.inl hx) (fun x hx => by simpa [World.setCell] using h.1.2.2 x hx)
  refine ⟨by simpa using ho.1, ?_⟩
  rcases ho.2 with ⟨e1, _⟩ | ⟨g', cap, cur, e1, hg, hgg, hn, hm, hcs, ht⟩
  · cases e1
  · simp only [Value.slice.injEq, Option.some.injEq, Addr.mk.injEq] at e1
    obtain ⟨⟨rfl, _⟩, _, rfl⟩ := e1
    refine Or.inr ⟨g, c, cur.setIfInBounds k u, rfl, hg, heap_setCell_same hgg u, hn, hm, by simpa using hcs, ?_⟩
    rw [Array.toList_setIfInBounds, List.take_set, ht]

theorem flatX_set : ∀ {rs : List Xs} {i : Nat} (y : Xs), i < rs.length → flatX (rs.set i y) = (((flatX rs).set (i * 3) (.int .i64 (y.num : Int))).set (i * 3 + 1) (.int .i64 (y.at_ : Int))).set (i * 3 + 2) (.slice y.ao y.len y.cap)
  | [], i, y, h => by simp at h
  | x :: rs, 0, y, h => by simp [flatX, Xs.cells]
  | x :: rs, i + 1, y, h => by
    have ih := flatX_set (rs := rs) (i := i) y (by simpa using h)
    simp only [flatX, List.set_cons_succ, List.flatMap_cons] at ih ⊢
    rw [ih]
    have e : (i + 1) * 3 = i * 3 + 3 := by omega
    rw [e]
    simp [Xs.cells]

theorem flatX_len (rs : List Xs) : (flatX rs).length = rs.length * 3 := by
  induction rs with
  | nil => rfl
  | cons x rs ih => simp only [flatX, List.flatMap_cons, List.length_append, List.length_cons] at ih ⊢; rw [ih]; simp [Xs.cells]; omega

theorem RS.set {n i : Nat} {rs : List Xs} {S : Sheets} (h : RS n rs S) {y : Xs} (hy : y.num = i) (hi : i < n) : RS n (rs.set i y) (setS S i (y.at_, y.bs)) := by
  refine ⟨by simp [h.len], fun j z hz => ?_⟩
  by_cases e : j = i
  · subst e
    rw [List.getElem?_set_self (by rw [h.len]; exact hi)] at hz
    cases hz
    exact ⟨hy, by simp [setS]⟩
  · rw [List.getElem?_set_ne (fun h => e h.symm)] at hz
    have := h.each j z hz
    exact ⟨this.1, by simp only [setS, if_neg e]; exact this.2⟩

/-- The document's book has these sheets. -/
def RHas (R n : Nat) (cs : List Comp) (S : Sheets) (w : World) : Prop := ∃ v rs, All (refL R v rs ++ cs) w ∧ RS n rs S

/-- A sheet of the document's book is another. -/
theorem RHas.store {R n i gr c : Nat} {rs : List Xs} {cs : List Comp} {S : Sheets} {w : World} {y : Xs} (hA : All (datC y :: (refL R (.slice (some ⟨gr, 0, none⟩) rs.length c) rs ++ cs)) w) (hR : RS n rs S) (hy : y.num = i) (hi : i < n) :
    RHas R n cs (setS S i (y.at_, y.bs)) (((w.setCell ⟨gr, i * 3, none⟩ (.int .i64 (y.num : Int))).setCell ⟨gr, i * 3 + 1, none⟩ (.int .i64 (y.at_ : Int))).setCell ⟨gr, i * 3 + 2, none⟩ (.slice y.ao y.len y.cap)) := by
  have hil : i < rs.length := by rw [hR.len]; exact hi
  refine ⟨.slice (some ⟨gr, 0, none⟩) rs.length c, rs.set i y, ?_, hR.set hy hi⟩
  have p1 : (datC y :: (refL R (.slice (some ⟨gr, 0, none⟩) rs.length c) rs ++ cs)).Perm (rowC 51 3 (.slice (some ⟨gr, 0, none⟩) rs.length c) rs.length (flatX rs) :: datC y :: blkC R [.slice (some ⟨gr, 0, none⟩) rs.length c] 72 :: (rs.map datC ++ cs)) := by
    simp only [refL, List.cons_append]
    exact ((List.Perm.cons _ (List.Perm.swap _ _ _)).trans (List.Perm.swap _ _ _))
  have A1 := hA.perm p1
  have A2 := A1.setRow1 (k := i * 3) (by rw [flatX_len]; omega) (.int .i64 (y.num : Int))
  have A3 := A2.setRow1 (k := i * 3 + 1) (by rw [List.length_set, flatX_len]; omega) (.int .i64 (y.at_ : Int))
  have A4 := A3.setRow1 (k := i * 3 + 2) (by rw [List.length_set, List.length_set, flatX_len]; omega) (.slice y.ao y.len y.cap)
  rw [← flatX_set y hil] at A4
  -- the old bytes are let go
  have hsub : ∃ l1 l2, rs.map datC = l1 ++ datC rs[i] :: l2 ∧ (rs.set i y).map datC = l1 ++ datC y :: l2 := by
    refine ⟨(rs.take i).map datC, (rs.drop (i + 1)).map datC, ?_, ?_⟩
    · rw [← List.map_cons, ← List.map_append]
      congr 1
      simp
    · rw [← List.map_cons, ← List.map_append, List.set_eq_take_append_cons_drop, if_pos hil]
  obtain ⟨l1, l2, e1, e2⟩ := hsub
  rw [e1] at A4
  simp only [refL, List.length_set, e2, List.cons_append, List.append_assoc]
  have A5 : All (rowC 51 3 (.slice (some ⟨gr, 0, none⟩) rs.length c) rs.length (flatX (rs.set i y)) :: datC y :: blkC R [.slice (some ⟨gr, 0, none⟩) rs.length c] 72 :: (l1 ++ (l2 ++ cs))) _ := A4.sublist (.cons_cons _ (.cons_cons _ (.cons_cons _ (by
    rw [List.append_assoc]
    exact List.Sublist.append (.refl _) (.cons _ (.refl _))))))
  refine A5.perm ?_
  refine (List.Perm.cons _ (List.Perm.swap _ _ _)).trans ((List.Perm.swap _ _ _).trans (.cons _ (.cons _ ?_)))
  exact List.perm_middle.symm

set_option maxRecDepth 100000 in
set_option maxHeartbeats 4000000 in
theorem rPut_all {w : World} {R n : Nat} {cs : List Comp} {S : Sheets} {num at_ : Int} {s : Value} {l : List UInt8} (hH : RHas R n cs S w) (hn : n ≤ 64) (hcap : ∀ i, (S i).1 ≤ 1099511627776 ∧ (S i).2.length ≤ 2304) (hs : Reads w s l) :
    Calls Try.prog 13 #[.pointer (some ⟨R, 0, none⟩), .int .i64 num, .int .i64 at_, s] w fun e w' => e = .returned (.int .i64 (putE n S num at_ l)) ∧ RHas R n cs (putS n S num at_ l) w' := by
  obtain ⟨v, rs, hA, hR⟩ := hH
  have hb : w.heap[R]? = some (.cells [v].toArray 72 (0, 0)) := hA.blk (by simp [refL])
  have hrow : w.ownsRow 0 51 3 v rs.length (flatX rs) := (hA.mem (c := rowC 51 3 v rs.length (flatX rs)) (by simp [refL])).2.1
  obtain ⟨ro, rc, rfl⟩ := owns_form hrow
  have c0 : w.cell? ⟨R, 0, none⟩ = some (.slice ro n rc) := by rw [cell_at hb, ← hR.len]; rfl
  have same : RHas R n cs S w := ⟨_, rs, hA, hR⟩
  have lR := lt_of_cell c0
  obtain ⟨ao, c, rfl⟩ := hs.form
  by_cases c1 : ¬ (0 ≤ num ∧ num < n)
  · have E : putE n S num at_ l = 61 := by simp only [putE, if_pos c1]
    have F : putS n S num at_ l = S := by simp only [putS, E]; rfl
    rw [E, F]
    have same := hid same
    clear hA hR hb hrow hs hcap hn E F
    generalize l.length = ll at *
    by_cases c2 : num < 0
    · have d1 : decide (num < 0) = true := by simpa using c2
      clear c1
      go_enter Try.func13, Try.ntmps13
      go_wp2
      go_ret
      exact ⟨rfl, same.out⟩
    · have d1 : decide (num < 0) = false := by simpa using c2
      have d2 : num ≥ (n : Int) := by omega
      clear c1
      go_enter Try.func13, Try.ntmps13
      go_wp2
      go_ret
      exact ⟨rfl, same.out⟩
  have c1 := Classical.not_not.1 c1
  obtain ⟨m, rfl⟩ : ∃ m : Nat, num = m := ⟨num.toNat, by omega⟩
  have hm : m < n := by omega
  have d1 : ¬ (m : Int) < 0 := by omega
  have d2 : ¬ (m : Int) ≥ (n : Int) := by omega
  by_cases c2 : ¬ (1 ≤ at_ ∧ at_ ≤ 1099511627776)
  · have E : putE n S m at_ l = 62 := by simp only [putE, if_neg (show ¬ ¬ (0 ≤ (m : Int) ∧ (m : Int) < n) from fun h => h c1), if_pos (show ¬ (1 ≤ at_ ∧ at_ ≤ 1099511627776) ∨ at_ < lastS S n from Or.inl c2)]
    have F : putS n S m at_ l = S := by simp only [putS, E]; rfl
    rw [E, F]
    have same := hid same
    clear hA hR hb hrow hs hcap hn E F c1 hm
    generalize l.length = ll at *
    by_cases c3 : at_ < 1
    · have d3 : decide (at_ < 1) = true := by simpa using c3
      clear c2
      go_enter Try.func13, Try.ntmps13
      go_wp2
      go_ret
      exact ⟨rfl, same.out⟩
    · have d3 : decide (at_ < 1) = false := by simpa using c3
      have d4 : at_ > 1099511627776 := by omega
      clear c2
      go_enter Try.func13, Try.ntmps13
      go_wp2
      go_ret
      exact ⟨rfl, same.out⟩
  have c2 := Classical.not_not.1 c2
  obtain ⟨a, rfl⟩ : ∃ a : Nat, at_ = a := ⟨at_.toNat, by omega⟩
  have d3 : ¬ (a : Int) < 1 := by omega
  have d4 : ¬ (a : Int) > 1099511627776 := by omega
  have LA := hid (rLast_all hA hR hn (fun i => (hcap i).1))
  by_cases c3 : (a : Int) < (lastS S n : Int)
  · have E : putE n S m a l = 62 := by simp only [putE, if_neg (show ¬ ¬ (0 ≤ (m : Int) ∧ (m : Int) < n) from fun h => h c1), if_pos (show ¬ (1 ≤ (a : Int) ∧ (a : Int) ≤ 1099511627776) ∨ (a : Int) < lastS S n from Or.inr c3)]
    have F : putS n S m a l = S := by simp only [putS, E]; rfl
    rw [E, F]
    have same := hid (fun w' (hb : Below w.heap.size w w') => (⟨_, rs, hA.later hb, hR⟩ : RHas R n cs S w'))
    generalize lastS S n = la at *
    clear hA hR hb hrow hs hcap hn E F c1 hm c2
    generalize l.length = ll at *
    go_enter Try.func13, Try.ntmps13
    go_wp2_with (go_at_call 31; refine LA.out.mono ?_; rintro e w' ⟨rfl, hb'⟩)
    go_ret
    exact ⟨rfl, same.out _ hb'⟩
  have n62 : ¬ (¬ (1 ≤ (a : Int) ∧ (a : Int) ≤ 1099511627776) ∨ (a : Int) < lastS S n) := by
    rintro (h | h)
    · exact h c2
    · exact c3 h
  by_cases c4 : 2304 < l.length
  · have E : putE n S m a l = 63 := by simp only [putE, if_neg (show ¬ ¬ (0 ≤ (m : Int) ∧ (m : Int) < n) from fun h => h c1), if_neg n62, if_pos c4]
    have F : putS n S m a l = S := by simp only [putS, E]; rfl
    rw [E, F]
    have c4 : (2304 : Int) < (l.length : Int) := by omega
    have same := hid (fun w' (hb : Below w.heap.size w w') => (⟨_, rs, hA.later hb, hR⟩ : RHas R n cs S w'))
    generalize lastS S n = la at *
    clear hA hR hb hrow hs hcap hn E F c1 hm c2 n62
    generalize l.length = ll at *
    go_enter Try.func13, Try.ntmps13
    go_wp2_with (go_at_call 31; refine LA.out.mono ?_; rintro e w' ⟨rfl, hb'⟩)
    go_ret
    exact ⟨rfl, same.out _ hb'⟩
  have E : putE n S m a l = 0 := by simp only [putE, if_neg (show ¬ ¬ (0 ≤ (m : Int) ∧ (m : Int) < n) from fun h => h c1), if_neg n62, if_neg c4]
  have hml : m < rs.length := by rw [hR.len]; exact hm
  obtain ⟨y, hy⟩ : ∃ y, rs[m]? = some y := ⟨_, List.getElem?_eq_getElem hml⟩
  obtain ⟨gr, rfl, hgr, x0, x1, x2⟩ := row_at hrow hy
  have hye := hR.each m y hy
  have hyb : y.bs = (S m).2 := by rw [← hye.2]
  have hmi : (m : Int) < (n : Int) := by omega
  have c4i : ¬ (2304 : Int) < (l.length : Int) := by omega
  have ydat : datC y ∈ refL R (.slice (some ⟨gr, 0, none⟩) rs.length rc) rs ++ cs := by
    simp only [refL, List.cons_append, List.mem_cons, List.mem_append, List.mem_map]
    exact .inr (.inr (.inl ⟨y, List.mem_of_getElem? hy, rfl⟩))
  have LA2 : Hid (Calls Try.prog 31 #[.pointer (some ⟨R, 0, none⟩)] w fun e w1 => e = .returned (.int .i64 (lastS S n : Int)) ∧ w1.cell? ⟨R, 0, none⟩ = some (.slice (some ⟨gr, 0, none⟩) n rc) ∧ w1.cell? ⟨gr, m * 3 + 2, none⟩ = some (.slice y.ao y.len y.cap) ∧
      Hid (Calls Try.prog 22 #[.slice y.ao y.len y.cap, .slice ao l.length c] w1 fun e w2 => e = .returned (.bool (decide ((S m).2 = l))) ∧ Hid (All (refL R (.slice (some ⟨gr, 0, none⟩) rs.length rc) rs ++ cs) w2 ∧ Reads w2 (.slice ao l.length c) l))) := hid (LA.out.mono (fun e w1 hq => by
    obtain ⟨rfl, hb1⟩ := hq
    have A1 := hA.later hb1
    have r1 : Reads w1 (.slice y.ao y.len y.cap) y.bs := Reads.of_owns (show w1.ownsRow 0 5 1 y.v y.bs.length (cellsB y.bs) from (A1.mem ydat).2.1)
    refine ⟨rfl, cell_under hb1 lR c0, cell_under hb1 hgr x2, hid ((Same_any r1 (hs.below hb1) (by rw [hyb]; have := (hcap m).2; omega) (by omega)).mono (fun e w2 hq => ?_))⟩
    obtain ⟨rfl, q, rfl⟩ := hq
    exact ⟨by rw [hyb], hid ⟨A1.drewN q, (hs.below hb1).drewN q⟩⟩))
  clear LA
  by_cases c5 : (S m).2 = l
  · have F : putS n S m a l = S := by simp only [putS, E]; rw [if_neg]; rintro ⟨_, h⟩; exact h (by simpa using c5)
    rw [E, F]
    have d5 : decide ((S m).2 = l) = true := by simpa using c5
    rw [d5] at LA2
    have same := hid (fun w' (h : All (refL R (.slice (some ⟨gr, 0, none⟩) rs.length rc) rs ++ cs) w') => (⟨_, rs, h, hR⟩ : RHas R n cs S w'))
    generalize lastS S n = la at *
    clear hA hb hrow hs hcap hn E F c1 c2 n62 hml hy x0 x1 x2 hye hyb ydat c5 d5 c4
    generalize l.length = ll at *
    go_enter Try.func13, Try.ntmps13
    go_wp2_with (first | (go_at_call 31; refine LA2.out.mono ?_; rintro e w1 ⟨rfl, k1, k2, k3⟩) | (go_at_call 22; refine k3.out.mono ?_; rintro e w2 ⟨rfl, h2⟩))
    go_ret
    exact ⟨rfl, same.out _ h2.out.1⟩
  · have F : putS n S m a l = setS S m (a, l) := by simp only [putS, E]; rw [if_pos ⟨trivial, by simpa using c5⟩]; simp
    rw [E, F]
    have d5 : decide ((S m).2 = l) = false := by simpa using c5
    rw [d5] at LA2
    have CP : Hid (∀ w2, All (refL R (.slice (some ⟨gr, 0, none⟩) rs.length rc) rs ++ cs) w2 ∧ Reads w2 (.slice ao l.length c) l → (w2.cell? ⟨R, 0, none⟩ = some (.slice (some ⟨gr, 0, none⟩) n rc) ∧ w2.drew.cell? ⟨R, 0, none⟩ = some (.slice (some ⟨gr, 0, none⟩) n rc)) ∧ Hid (Calls Try.prog 38 #[.slice ao l.length c] w2.drew fun e w3 => ∃ o3 c3, e = .returned (.slice o3 l.length c3) ∧ w3.cell? ⟨R, 0, none⟩ = some (.slice (some ⟨gr, 0, none⟩) n rc) ∧ w3.cell? ⟨gr, m * 3, none⟩ = some (.int .i64 (y.num : Int)) ∧ w3.cell? ⟨gr, m * 3 + 1, none⟩ = some (.int .i64 (y.at_ : Int)) ∧ w3.cell? ⟨gr, m * 3 + 2, none⟩ = some (.slice y.ao y.len y.cap) ∧ w3.frozen? ⟨gr, m * 3, none⟩ = false ∧ w3.frozen? ⟨gr, m * 3 + 1, none⟩ = false ∧ w3.frozen? ⟨gr, m * 3 + 2, none⟩ = false ∧
        Hid (RHas R n cs (setS S m (a, l)) (((w3.setCell ⟨gr, m * 3, none⟩ (.int .i64 (m : Int))).setCell ⟨gr, m * 3 + 1, none⟩ (.int .i64 (a : Int))).setCell ⟨gr, m * 3 + 2, none⟩ (.slice o3 l.length c3))))) := hid (by
      rintro w2 ⟨A2, r2⟩
      have cR : w2.cell? ⟨R, 0, none⟩ = some (.slice (some ⟨gr, 0, none⟩) n rc) := by
        rw [cell_at (show w2.heap[R]? = some (.cells [.slice (some ⟨gr, 0, none⟩) rs.length rc].toArray 72 (0, 0)) from A2.blk (by simp [refL])), hR.len]; rfl
      refine ⟨⟨cR, cR⟩, hid ((copied_any r2.drew (by omega)).mono (fun e w3 hq => ?_))⟩
      obtain ⟨v3, rfl, ho3, hb3⟩ := hq
      obtain ⟨o3, c3, rfl⟩ := owns_form ho3
      have A3 := A2.drew.later hb3
      have hrow3 : w3.ownsRow 0 51 3 (.slice (some ⟨gr, 0, none⟩) rs.length rc) rs.length (flatX rs) := (A3.mem (c := rowC 51 3 (.slice (some ⟨gr, 0, none⟩) rs.length rc) rs.length (flatX rs)) (by simp [refL])).2.1
      obtain ⟨gr', e, hgr3, z0, z1, z2⟩ := row_at hrow3 hy
      cases e
      have hfree : ∀ j, w3.frozen? ⟨gr, j, none⟩ = false := by
        rcases hrow3.2 with ⟨e, _⟩ | ⟨g', cap, cur, e, _, hgg, _⟩
        · cases e
        · simp only [Value.slice.injEq, Option.some.injEq, Addr.mk.injEq] at e
          obtain ⟨⟨rfl, _⟩, _⟩ := e
          exact fun j => free_at hgg j
      refine ⟨o3, c3, rfl, ?_, z0, z1, z2, hfree _, hfree _, hfree _, hid ?_⟩
      · rw [cell_at (show w3.heap[R]? = some (.cells [.slice (some ⟨gr, 0, none⟩) rs.length rc].toArray 72 (0, 0)) from A3.blk (by simp [refL])), hR.len]; rfl
      · have A4 : All (datC ⟨m, a, o3, l.length, c3, l⟩ :: (refL R (.slice (some ⟨gr, 0, none⟩) rs.length rc) rs ++ cs)) w3 := by
          refine A2.drew.add (Fr.below hb3) (rowC_good _ _ _ _ _) (owns_zero ho3) (fun k hk => ?_)
          have hk' : (Value.slice o3 l.length c3).ownBlock = some k := by simpa [datC, rowC, Xs.v] using hk
          exact World.ownsRow.lt ho3 k hk'
        exact RHas.store (y := ⟨m, a, o3, l.length, c3, l⟩) A4 hR rfl hm)
    generalize setS S m (a, l) = S2 at *
    generalize lastS S n = la at *
    clear hA hb hrow hs hcap hn E F c1 c2 n62 hml hy x0 x1 x2 hye hyb ydat c5 d5 c4 same
    generalize l.length = ll at *
    go_enter Try.func13, Try.ntmps13
    go_wp2_with (first | (go_at_call 31; refine LA2.out.mono ?_; rintro e w1 ⟨rfl, k1, k2, k3⟩) | (go_at_call 22; refine k3.out.mono ?_; rintro e w2 ⟨rfl, h2⟩))
    obtain ⟨⟨kr, kr'⟩, CPY⟩ := CP.out w2 h2.out
    clear CP h2 k3 LA2
    go_region_law (go_simp; go_at_call 38; refine CPY.out.mono ?_; rintro e w3 ⟨o3, c3, rfl, zR, z0, z1, z2, f0, f1, f2, HF⟩)
    all_goals
      go_wp2
      go_ret
      exact ⟨rfl, HF.out⟩

end Go.Proofs.Ytaomhahmpbfjhaa

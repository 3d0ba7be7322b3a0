import Derived.Test.YtphcfkfdkaphbaaTAm
import Derived.Test.YtphcfkfdkaphbaaRefE
namespace Go.Proofs.Ytphcfkfdkaphbaa
open Go.RowKit
set_option linter.unusedVariables false

theorem Try.info24 : (Try.prog.info? 24).map (fun i => (i.zero, i.size, i.bytes)) = some (some (.pointer none), 1, 8) := by kernel_rfl
theorem Try.info27 : (Try.prog.info? 27).map (fun i => (i.zero, i.size, i.bytes)) = some (some (.pointer none), 1, 8) := by kernel_rfl
/-- One pointer more. -/
theorem app_ptr {W : World} {K : Nat} {e st : TypeId} (hst : Try.prog.underlying st = some (.slice e)) (hinfo : (Try.prog.info? e).map (fun i => (i.zero, i.size, i.bytes)) = some (some (.pointer none), 1, 8)) {a : Option Addr} {v : Value} {l : List Value} {cs : List Comp} (A : All (ownC e v l :: cs) W) (hK : W.heap[K]? = some (.cells #[.pointer a] e (0, 0))) (hlen : l.length ≤ 1000) :
    ∃ ao c w', (Builtin.append_ #[st, st] st #[v, .slice (some ⟨K, 0, none⟩) 1 1]).run Try.prog W = .ok (.slice ao (l.length + 1) c) w' ∧ All (ownC e (.slice ao (l.length + 1) c) (l ++ [.pointer a]) :: cs) w' := by
  obtain ⟨i1, hi1, hz0, hz1, hz2⟩ := info_parts hinfo
  have h1c : ∀ u ∈ [Value.pointer a], u.oneCell' = true := fun u hu => by
    rw [List.mem_singleton.1 hu]
    rfl
  obtain ⟨v', w', hr, h2, h3, h4, h5⟩ := run_append_own_at (P := Try.prog) W 0 st st e i1 _ 1 8 hst hi1 hz0 hz1 hz2 rfl (by decide) v l.length l A.1.2.1 ⟨K, 0, none⟩ 1 1 [.pointer a] rfl
    (fun j u hu => by rw [Addr.add_lit, Nat.zero_add, cell_at hK]; exact (List.getElem?_toArray (xs := [Value.pointer a]) ..).trans hu) h1c (by unfold maxLen; omega) (by omega) (by omega)
  obtain ⟨ao, c, rfl⟩ := owns_form h2
  exact ⟨ao, c, w', hr, A.ownGrow (vs' := l ++ [.pointer a]) (by rw [List.length_append]; exact h2) h3 h5⟩

theorem hd_perm {D : Nat} {va vb vm : Value} {ga gb : List Value} {M : List Mk} {Z : List Comp} : (hdL D va vb vm ga gb M ++ Z).Perm (ownC 24 va ga :: blkC D [va, vb, vm] 34 :: ownC 27 vb gb :: (markC vm M :: (M.map Mk.comp ++ Z))) := by
  have := perm_by 6 [[blkC D [va, vb, vm] 34], [ownC 24 va ga], [ownC 27 vb gb], [markC vm M], M.map Mk.comp, Z] [1, 0, 2, 3, 4, 5] rfl (by decide)
  simpa [List.getD, hdL] using this
theorem hd_appA {D P' : Nat} {va vb vm : Value} {ga gb : List Value} {M : List Mk} {Z : List Comp} {w : World} (hA : All (hdL D va vb vm ga gb M ++ Z) w) (hlen : ga.length ≤ 1000) :
    ∃ ao c w3, (Builtin.append_ #[26, 26] 26 #[va, .slice (some ⟨w.heap.size, 0, none⟩) 1 1]).run Try.prog (w.alloc (.cells #[.pointer (some ⟨P', 0, none⟩)] 24)) = .ok (.slice ao (ga.length + 1) c) w3 ∧ w3.cell? ⟨D, 0, none⟩ = some va ∧ w3.frozen? ⟨D, 0, none⟩ = false ∧ Hid (All (hdL D (.slice ao (ga.length + 1) c) vb vm (ga ++ [.pointer (some ⟨P', 0, none⟩)]) gb M ++ Z) (w3.setCell ⟨D, 0, none⟩ (.slice ao (ga.length + 1) c))) := by
  have h1 := hA.perm hd_perm
  obtain ⟨ao, c, w3, hr, B⟩ := app_ptr (st := 26) Try.underlying26 Try.info24 (a := some ⟨P', 0, none⟩) (h1.alloc (.cells #[.pointer (some ⟨P', 0, none⟩)] 24)) (heap_alloc_new w _) hlen
  have e3 := B.tail.1.2.1
  exact ⟨ao, c, w3, hr, by rw [cell_at e3]; rfl, free_at e3 0, hid ((B.swap.setBlk 0 (.slice ao (ga.length + 1) c)).swap.perm hd_perm.symm)⟩
theorem hd_appB {D R' : Nat} {va vb vm : Value} {ga gb : List Value} {M : List Mk} {Z : List Comp} {w : World} (hA : All (hdL D va vb vm ga gb M ++ Z) w) (hlen : gb.length ≤ 1000) :
    ∃ ao c w3, (Builtin.append_ #[31, 31] 31 #[vb, .slice (some ⟨w.heap.size, 0, none⟩) 1 1]).run Try.prog (w.alloc (.cells #[.pointer (some ⟨R', 0, none⟩)] 27)) = .ok (.slice ao (gb.length + 1) c) w3 ∧ w3.cell? ⟨D, 1, none⟩ = some vb ∧ w3.frozen? ⟨D, 1, none⟩ = false ∧ Hid (All (hdL D va (.slice ao (gb.length + 1) c) vm ga (gb ++ [.pointer (some ⟨R', 0, none⟩)]) M ++ Z) (w3.setCell ⟨D, 1, none⟩ (.slice ao (gb.length + 1) c))) := by
  have h1 := (hA.perm hd_perm).cab
  obtain ⟨ao, c, w3, hr, B⟩ := app_ptr (st := 31) Try.underlying31 Try.info27 (a := some ⟨R', 0, none⟩) (h1.alloc (.cells #[.pointer (some ⟨R', 0, none⟩)] 27)) (heap_alloc_new w _) hlen
  have e3 := B.tail.tail.1.2.1
  refine ⟨ao, c, w3, hr, by rw [cell_at e3]; rfl, free_at e3 1, hid ?_⟩
  exact ((B.cab.setBlk 1 (.slice ao (gb.length + 1) c)).cab.perm hd_perm.symm)
theorem hd_setA {D ra n c j : Nat} {vb vm u : Value} {ga gb : List Value} {M : List Mk} {Z : List Comp} {w : World} (hA : All (hdL D (.slice (some ⟨ra, 0, none⟩) n c) vb vm ga gb M ++ Z) w) : All (hdL D (.slice (some ⟨ra, 0, none⟩) n c) vb vm (ga.set j u) gb M ++ Z) (w.setCell ⟨ra, j, none⟩ u) :=
  ((hA.perm hd_perm).ownPut (j := j) (u := u)).perm hd_perm.symm
theorem hd_setB {D rb n c j : Nat} {va vm u : Value} {ga gb : List Value} {M : List Mk} {Z : List Comp} {w : World} (hA : All (hdL D va (.slice (some ⟨rb, 0, none⟩) n c) vm ga gb M ++ Z) w) : All (hdL D va (.slice (some ⟨rb, 0, none⟩) n c) vm ga (gb.set j u) M ++ Z) (w.setCell ⟨rb, j, none⟩ u) :=
  ((hA.perm hd_perm).cab.ownPut (j := j) (u := u)).bca.perm hd_perm.symm

theorem TClone_in {T : List Tq} {k : Nat} {t : Tq} {X Z : List Comp} {w : World} (hT : T[k]? = some t) (hA : All (X ++ (T.flatMap Tq.parts ++ Z)) w) : Calls Try.prog 66 #[.pointer (some ⟨t.P, 0, none⟩)] w fun e w' => ∃ P' b', e = .returned (.pointer (some ⟨P', 0, none⟩)) ∧ All (X ++ (T.flatMap Tq.parts ++ (tabS P' b' (Maps.size t.D) t.D :: Z))) w' := by
  have h1 := hA.perm (flat_mid hT X Z t).2
  refine (TCloneS (show All (tabS t.P t.b (Maps.size t.D) t.D :: refC t.R t.v t.ts :: (X ++ (OT T k ++ Z))) w from h1)).mono ?_
  rintro e w' ⟨P', b', rfl, A⟩
  refine ⟨P', b', rfl, A.perm ?_⟩
  refine List.Perm.trans ?_ (flat_mid hT X (tabS P' b' (Maps.size t.D) t.D :: Z) t).2.symm
  have := perm_by 5 [[tabS P' b' (Maps.size t.D) t.D], t.parts, X, OT T k, Z] [1, 2, 3, 0, 4] rfl (by decide)
  simpa [List.getD, Tq.parts] using this
theorem RClone_in {T : List Tq} {k : Nat} {t : Tq} {X Z : List Comp} {w : World} (hT : T[k]? = some t) (hl : t.ts.length ≤ 32) (hA : All (X ++ (T.flatMap Tq.parts ++ Z)) w) : Calls Try.prog 67 #[.pointer (some ⟨t.R, 0, none⟩)] w fun e w' => ∃ R' v', e = .returned (.pointer (some ⟨R', 0, none⟩)) ∧ All (X ++ (T.flatMap Tq.parts ++ (refC R' v' t.ts :: Z))) w' := by
  have h1 := hA.perm (flat_mid hT X Z t).2
  refine (RClone (show All (refC t.R t.v t.ts :: tabS t.P t.b (Maps.size t.D) t.D :: (X ++ (OT T k ++ Z))) w from All.swap h1) (by omega)).mono ?_
  rintro e w' ⟨R', v', rfl, A⟩
  refine ⟨R', v', rfl, A.perm ?_⟩
  refine List.Perm.trans ?_ (flat_mid hT X (refC R' v' t.ts :: Z) t).2.symm
  have := perm_by 6 [[refC R' v' t.ts], [refC t.R t.v t.ts], [tabS t.P t.b (Maps.size t.D) t.D], X, OT T k, Z] [2, 1, 3, 4, 0, 5] rfl (by decide)
  simpa [List.getD, Tq.parts] using this
theorem desk_app {D : Nat} {va vb vm : Value} {T : List Tq} {M : List Mk} {t' : Tq} {cs : List Comp} {w : World} (h : All (hdL D va vb vm (pA T ++ [.pointer (some ⟨t'.P, 0, none⟩)]) (pB T ++ [.pointer (some ⟨t'.R, 0, none⟩)]) M ++ (T.flatMap Tq.parts ++ (refC t'.R t'.v t'.ts :: tabS t'.P t'.b (Maps.size t'.D) t'.D :: cs))) w) : All (deskL D va vb vm (T ++ [t']) M ++ cs) w := by
  refine h.perm ?_
  have := perm_by 5 [hdL D va vb vm (pA T ++ [.pointer (some ⟨t'.P, 0, none⟩)]) (pB T ++ [.pointer (some ⟨t'.R, 0, none⟩)]) M, T.flatMap Tq.parts, [refC t'.R t'.v t'.ts], [tabS t'.P t'.b (Maps.size t'.D) t'.D], cs] [0, 1, 3, 2, 4] rfl (by decide)
  simpa [List.getD, deskL, pA, pB, Tq.parts] using this
theorem desk_set {D m : Nat} {va vb vm : Value} {T : List Tq} {M : List Mk} {t' u : Tq} {cs : List Comp} {w : World} (hu : T[m]? = some u) (h : All (hdL D va vb vm ((pA T).set m (.pointer (some ⟨t'.P, 0, none⟩))) ((pB T).set m (.pointer (some ⟨t'.R, 0, none⟩))) M ++ (T.flatMap Tq.parts ++ (refC t'.R t'.v t'.ts :: tabS t'.P t'.b (Maps.size t'.D) t'.D :: cs))) w) : All (deskL D va vb vm (T.set m t') M ++ cs) w := by
  have e1 : pA (T.set m t') = (pA T).set m (.pointer (some ⟨t'.P, 0, none⟩)) := by unfold pA; rw [List.map_set]
  have e2 : pB (T.set m t') = (pB T).set m (.pointer (some ⟨t'.R, 0, none⟩)) := by unfold pB; rw [List.map_set]
  have h1 := h.perm (flat_mid hu (hdL D va vb vm ((pA T).set m (.pointer (some ⟨t'.P, 0, none⟩))) ((pB T).set m (.pointer (some ⟨t'.R, 0, none⟩))) M) (refC t'.R t'.v t'.ts :: tabS t'.P t'.b (Maps.size t'.D) t'.D :: cs) u).2
  have h2 := h1.sublist (List.sublist_append_right _ _)
  unfold deskL
  rw [List.append_assoc, e1, e2]
  refine h2.perm (List.Perm.trans ?_ (flat_mid hu (hdL D va vb vm ((pA T).set m (.pointer (some ⟨t'.P, 0, none⟩))) ((pB T).set m (.pointer (some ⟨t'.R, 0, none⟩))) M) cs t').1.symm)
  have := perm_by 5 [hdL D va vb vm ((pA T).set m (.pointer (some ⟨t'.P, 0, none⟩))) ((pB T).set m (.pointer (some ⟨t'.R, 0, none⟩))) M, OT T m, [refC t'.R t'.v t'.ts], [tabS t'.P t'.b (Maps.size t'.D) t'.D], cs] [3, 2, 0, 1, 4] rfl (by decide)
  simpa [List.getD, Tq.parts] using this
theorem own_rd {w : World} {X Z : List Comp} {e : TypeId} {g n c j : Nat} {vs : List Value} {u : Value} (hA : All Z w) (hm : ownC e (.slice (some ⟨g, 0, none⟩) n c) vs ∈ Z) (hu : vs[j]? = some u) : w.cell? ⟨g, j, none⟩ = some u ∧ w.frozen? ⟨g, j, none⟩ = false := by
  obtain ⟨_, e1, p, f⟩ := owns_at (show w.ownsRow 0 e 1 (.slice (some ⟨g, 0, none⟩) n c) vs.length vs from (hA.mem hm).2.1) hu
  cases e1
  exact ⟨p, f⟩

set_option maxHeartbeats 1600000 in
set_option maxRecDepth 1000000 in
theorem dclone_any {D k i : Nat} {va vb vm : Value} {T : List Tq} {M : List Mk} {cs : List Comp} {w : World} (tz : Int) (hA : All (deskL D va vb vm T M ++ cs) w) (hF : DF T M i) (hk : k < T.length) : Calls Try.prog 49 #[.pointer (some ⟨D, 0, none⟩), .int .i64 (k : Int), .int .i64 tz] w fun e w' => e = .returned (.bool true) ∧ DeskI D T.length (i + 1) cs w' := by
  obtain ⟨t, hT⟩ : ∃ t, Hid (T[k]? = some t) := ⟨_, hid (List.getElem?_eq_getElem hk)⟩
  have hok := hid (hF.ok t (List.mem_of_getElem? hT.out))
  obtain ⟨ra, ca, rb, cb, rfl, rfl, RD⟩ := desk_reads hT.out hA
  obtain ⟨c0, c1, pa, pb⟩ := RD
  have j1 : (k : Int) < (T.length : Int) := by omega
  have hle := hok.out.2
  have HF := hid hF
  have hT4 := hF.four
  have hlA : (pA T).length ≤ 1000 := by rw [pA_len]; omega
  have hlB : (pB T).length ≤ 1000 := by rw [pB_len]; omega
  have A0 := hid (show All (hdL D (.slice (some ⟨ra, 0, none⟩) T.length ca) (.slice (some ⟨rb, 0, none⟩) T.length cb) vm (pA T) (pB T) M ++ (T.flatMap Tq.parts ++ cs)) w by
    unfold deskL at hA
    rwa [List.append_assoc] at hA)
  clear hA hF
  go_enter Try.func49, Try.ntmps49
  go_wp2_with fail
  refine (TClone_in hT.out A0.out).mono ?_
  rintro e w1 ⟨P', b', rfl, A1⟩
  have A1 := hid A1
  clear c0 c1 pa pb A0
  have hRD : DRead w1 D T.length k ra ca rb cb t.P t.R := hd_reads (X := []) hT.out rfl A1.out
  obtain ⟨c0, c1, pa, pb⟩ := hRD
  by_cases h4 : T.length < 4
  · have q1 : decide ((T.length : Int) < 4) = true := decide_eq_true (by omega)
    have q2 : (T.length : Int) < 4 := by omega
    have hDl := World.block_lt_of_cell? _ _ c0
    obtain ⟨a3, k3, w3, hr3, d0, f0, B3⟩ := hd_appA (P' := P') A1.out hlA
    rw [pA_len] at hr3 B3
    have HR3 := hid hr3
    clear hr3
    have hDl3 := World.block_lt_of_cell? _ _ d0
    have eD : (w3.setCell ⟨D, 0, none⟩ (.slice a3 (T.length + 1) k3)).heap[D]? = some (.cells [.slice a3 (T.length + 1) k3, .slice (some ⟨rb, 0, none⟩) T.length cb, vm].toArray 34 (0, 0)) := B3.out.blk (by simp [hdL])
    have d1 : (w3.setCell ⟨D, 0, none⟩ (.slice a3 (T.length + 1) k3)).cell? ⟨D, 1, none⟩ = some (.slice (some ⟨rb, 0, none⟩) T.length cb) := by rw [cell_at eD]; rfl
    have d2 := (own_rd (X := []) (j := k) (u := .pointer (some ⟨t.R, 0, none⟩)) B3.out (show ownC 27 (.slice (some ⟨rb, 0, none⟩) T.length cb) (pB T) ∈ _ by simp [hdL]) (by simp [pB, hT.out])).1
    go_upto_region 6 with (at_builtin; refine wpList_append_run rfl (.tmp 29) (.tmp 31) 26 rfl _ _ _ _ rfl rfl HR3.out ?_)
    clear HR3 c0 c1 pa pb d0 f0 eD hDl hDl3 A1
    generalize (w3.setCell ⟨D, 0, none⟩ (.slice a3 (T.length + 1) k3)) = w4 at *
    have C67 : Hid (Calls Try.prog 67 #[.pointer (some ⟨t.R, 0, none⟩)] w4.drew fun e w' => ∃ R', e = .returned (.pointer (some ⟨R', 0, none⟩)) ∧ w'.cell? ⟨D, 1, none⟩ = some (.slice (some ⟨rb, 0, none⟩) T.length cb) ∧ D < w'.heap.size ∧ (∃ ao2 c2 w3, (Builtin.append_ #[31, 31] 31 #[.slice (some ⟨rb, 0, none⟩) T.length cb, .slice (some ⟨w'.heap.size, 0, none⟩) 1 1]).run Try.prog (w'.alloc (.cells #[.pointer (some ⟨R', 0, none⟩)] 27)) = .ok (.slice ao2 (T.length + 1) c2) w3 ∧ w3.cell? ⟨D, 1, none⟩ = some (.slice (some ⟨rb, 0, none⟩) T.length cb) ∧ w3.frozen? ⟨D, 1, none⟩ = false ∧ Hid (DeskI D T.length (i + 1) cs (w3.setCell ⟨D, 1, none⟩ (.slice ao2 (T.length + 1) c2))))) := hid (by
      refine (RClone_in hT.out hle B3.out.drew).mono ?_
      rintro e w' ⟨R', v', rfl, A5⟩
      have eD : w'.heap[D]? = some (.cells [.slice a3 (T.length + 1) k3, .slice (some ⟨rb, 0, none⟩) T.length cb, vm].toArray 34 (0, 0)) := A5.blk (by simp [hdL])
      obtain ⟨a4, k4, w5, hr4, d3, f3, B5⟩ := hd_appB (R' := R') A5 hlB
      rw [pB_len] at hr4 B5
      refine ⟨R', rfl, by rw [cell_at eD]; rfl, (Array.getElem?_eq_some_iff.1 eD).1, a4, k4, w5, hr4, d3, f3, hid ?_⟩
      refine ⟨_, _, _, T ++ [⟨P', b', R', t.D, v', t.ts⟩], M, by simp, ⟨fun x hx => ?_, by simp, by simp; omega, Nat.le_succ_of_le HF.out.few, HF.out.short⟩, desk_app (t' := ⟨P', b', R', t.D, v', t.ts⟩) B5.out⟩
      rcases List.mem_append.1 hx with hx | hx
      · exact HF.out.ok x hx
      · rw [List.mem_singleton.1 hx]; exact hok.out)
    go_region_law (first
      | (go_simp; go_at_call 67; refine C67.out.mono ?_; rintro e w6 ⟨R', rfl, s1, s2, ao2, c2, w7, hr, s3, s4, HI⟩; have HR := hid hr; clear hr)
      | (refine step_append_run (by rfl) (.tmp 39) (.tmp 48) 31 (by rfl) _ _ _ _ (by rfl) (by rfl) HR.out ?_))
    all_goals clear HR s1 s2 C67
    all_goals (go_wp2; go_ret; exact ⟨rfl, HI.out⟩)
  · have q1 : decide ((T.length : Int) < 4) = false := decide_eq_false (by omega)
    have q2 : ¬ (T.length : Int) < 4 := by omega
    obtain ⟨m, hm⟩ : ∃ m, m = amN tz 4 := ⟨_, rfl⟩
    have hm4 : m < 4 := by rw [hm]; exact amN_lt tz (by decide)
    have C15 : Hid (∀ W, Calls Try.prog 15 #[.int .i64 tz, .int .i64 4] W fun e w' => e = .returned (.int .i64 (m : Int)) ∧ w' = W) := hid (fun W => by rw [hm]; exact among_is tz 4 (by decide) (by decide))
    have hm5 : m < T.length := by omega
    obtain ⟨u, hu⟩ : ∃ u, Hid (T[m]? = some u) := ⟨_, hid (List.getElem?_eq_getElem hm5)⟩
    have j2 : (m : Int) < (T.length : Int) := by omega
    clear hm
    go_wp2_with fail
    refine (C15.out _).mono ?_
    rintro e w2 ⟨rfl, rfl⟩
    clear C15
    go_wp2_with fail
    refine (RClone_in hT.out hle A1.out).mono ?_
    rintro e w3 ⟨R', v', rfl, A3⟩
    have A3 := hid A3
    clear c0 c1 pa pb A1
    have eD : w3.heap[D]? = some (.cells [.slice (some ⟨ra, 0, none⟩) T.length ca, .slice (some ⟨rb, 0, none⟩) T.length cb, vm].toArray 34 (0, 0)) := A3.out.blk (by simp [hdL])
    have c0 : w3.cell? ⟨D, 0, none⟩ = some (.slice (some ⟨ra, 0, none⟩) T.length ca) := by rw [cell_at eD]; rfl
    obtain ⟨x1, f1⟩ := own_rd (X := []) (j := m) (u := .pointer (some ⟨u.P, 0, none⟩)) A3.out (show ownC 24 (.slice (some ⟨ra, 0, none⟩) T.length ca) (pA T) ∈ _ by simp [hdL]) (by simp [pA, hu.out])
    have B4 := hid (hd_setA (j := m) (u := .pointer (some ⟨P', 0, none⟩)) A3.out)
    have eD4 : (w3.setCell ⟨ra, m, none⟩ (.pointer (some ⟨P', 0, none⟩))).heap[D]? = some (.cells [.slice (some ⟨ra, 0, none⟩) T.length ca, .slice (some ⟨rb, 0, none⟩) T.length cb, vm].toArray 34 (0, 0)) := B4.out.blk (by simp [hdL])
    have c1 : (w3.setCell ⟨ra, m, none⟩ (.pointer (some ⟨P', 0, none⟩))).cell? ⟨D, 1, none⟩ = some (.slice (some ⟨rb, 0, none⟩) T.length cb) := by rw [cell_at eD4]; rfl
    obtain ⟨x2, f2⟩ := own_rd (X := []) (j := m) (u := .pointer (some ⟨u.R, 0, none⟩)) B4.out (show ownC 27 (.slice (some ⟨rb, 0, none⟩) T.length cb) (pB T) ∈ _ by simp [hdL]) (by simp [pB, hu.out])
    have B5 := hid (desk_set (t' := ⟨P', b', R', t.D, v', t.ts⟩) hu.out (hd_setB (j := m) (u := .pointer (some ⟨R', 0, none⟩)) B4.out))
    clear eD eD4 B4 A3
    go_wp2
    go_ret
    exact ⟨rfl, _, _, _, T.set m ⟨P', b', R', t.D, v', t.ts⟩, M, by simp, HF.out.set (show Tq.ok _ from hok.out), B5.out⟩
end Go.Proofs.Ytphcfkfdkaphbaa

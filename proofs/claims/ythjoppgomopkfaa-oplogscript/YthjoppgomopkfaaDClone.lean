import Derived.Test.YthjoppgomopkfaaDesk
import Derived.Test.YthjoppgomopkfaaClone
import Derived.Test.YthjoppgomopkfaaRefB
namespace Go.Proofs.Ythjoppgomopkfaa
open Go.RowKit
set_option linter.unusedVariables false

theorem desk_rd {n D k N ra ca rb cb : Nat} {vm : Value} {T : List Tw} {M : List Mk} {t : Tw} {Z : List Comp} {w : World} (h : T[k]? = some t) (hA : All (deskL n D (.slice (some ⟨ra, 0, none⟩) N ca) (.slice (some ⟨rb, 0, none⟩) N cb) vm T M ++ Z) w) : DRead w D N k ra ca rb cb t.g t.p := by
  obtain ⟨ra', ca', rb', cb', e1, e2, RD⟩ := desk_reads h hA
  simp only [Value.slice.injEq, Option.some.injEq, Addr.mk.injEq, and_true] at e1 e2
  obtain ⟨rfl, rfl, rfl⟩ := e1
  obtain ⟨rfl, _, rfl⟩ := e2
  exact RD
/-- A desk with a twin beside it, opened. -/
theorem hd_rows {n D : Nat} {va vb vm : Value} {T : List Tw} {M : List Mk} {t' : Tw} {cs : List Comp} {w : World} (h : All (deskL n D va vb vm T M ++ (logP t'.g t'.h t'.b (t'.b + t'.L.length) n t'.ps ++ (refP t'.p n t'.b t'.v t'.L ++ cs))) w) : All (ownC 23 va (pA T) :: blkC D [va, vb, vm] 35 :: ownC 27 vb (pB T) :: (markC vm M :: (M.map Mk.comp ++ (t'.parts n ++ (T.flatMap (Tw.parts n) ++ cs))))) w := by
  refine h.perm ?_
  have := perm_by 9 [[blkC D [va, vb, vm] 35], [ownC 23 va (pA T)], [ownC 27 vb (pB T)], [markC vm M], M.map Mk.comp, T.flatMap (Tw.parts n), logP t'.g t'.h t'.b (t'.b + t'.L.length) n t'.ps, refP t'.p n t'.b t'.v t'.L, cs] [1, 0, 2, 3, 4, 6, 7, 5, 8] rfl (by decide)
  simpa [List.getD, deskL, hdL, Tw.parts] using this
theorem rows_app {n D : Nat} {va vb vm : Value} {T : List Tw} {M : List Mk} {t' : Tw} {cs : List Comp} {w : World} (h : All (blkC D [va, vb, vm] 35 :: ownC 27 vb (pB T ++ [.pointer (some ⟨t'.p, 0, none⟩)]) :: ownC 23 va (pA T ++ [.pointer (some ⟨t'.g, 0, none⟩)]) :: (markC vm M :: (M.map Mk.comp ++ (t'.parts n ++ (T.flatMap (Tw.parts n) ++ cs))))) w) : All (deskL n D va vb vm (T ++ [t']) M ++ cs) w := by
  refine h.perm ?_
  have := perm_by 8 [[blkC D [va, vb, vm] 35], [ownC 27 vb (pB T ++ [.pointer (some ⟨t'.p, 0, none⟩)])], [ownC 23 va (pA T ++ [.pointer (some ⟨t'.g, 0, none⟩)])], [markC vm M], M.map Mk.comp, t'.parts n, T.flatMap (Tw.parts n), cs] [0, 2, 1, 3, 4, 6, 5, 7] rfl (by decide)
  simpa [List.getD, deskL, hdL, pA, pB] using this
theorem rows_set {n D m : Nat} {va vb vm : Value} {T : List Tw} {M : List Mk} {t t' : Tw} {cs : List Comp} {w : World} (hT : T[m]? = some t) (h : All (ownC 27 vb ((pB T).set m (.pointer (some ⟨t'.p, 0, none⟩))) :: ownC 23 va ((pA T).set m (.pointer (some ⟨t'.g, 0, none⟩))) :: blkC D [va, vb, vm] 35 :: (markC vm M :: (M.map Mk.comp ++ (t'.parts n ++ (T.flatMap (Tw.parts n) ++ cs))))) w) : All (deskL n D va vb vm (T.set m t') M ++ cs) w := by
  have e1 : pA (T.set m t') = (pA T).set m (.pointer (some ⟨t'.g, 0, none⟩)) := by unfold pA; rw [List.map_set]
  have e2 : pB (T.set m t') = (pB T).set m (.pointer (some ⟨t'.p, 0, none⟩)) := by unfold pB; rw [List.map_set]
  obtain ⟨f1, f2⟩ := flat_mid (n := n) hT [] cs t'
  have h1 : All (hdL D va vb vm (pA (T.set m t')) (pB (T.set m t')) M ++ (t'.parts n ++ (t.parts n ++ (OT n T m ++ cs)))) w := by
    rw [e1, e2]
    refine h.perm ?_
    have := perm_by 7 [[ownC 27 vb ((pB T).set m (.pointer (some ⟨t'.p, 0, none⟩)))], [ownC 23 va ((pA T).set m (.pointer (some ⟨t'.g, 0, none⟩)))], [blkC D [va, vb, vm] 35], [markC vm M], M.map Mk.comp, t'.parts n, T.flatMap (Tw.parts n) ++ cs] [2, 1, 0, 3, 4, 5, 6] rfl (by decide)
    refine List.Perm.trans (by simpa [List.getD, hdL] using this) ((List.Perm.append_left _ (List.Perm.append_left (t'.parts n) (by simpa using f2))))
  have h2 := h1.sublist (ds := hdL D va vb vm (pA (T.set m t')) (pB (T.set m t')) M ++ (t'.parts n ++ (OT n T m ++ cs))) (List.Sublist.append (.refl _) (List.Sublist.append (.refl _) (List.sublist_append_right _ _)))
  refine h2.perm ?_
  unfold deskL
  rw [List.append_assoc]
  exact List.Perm.append_left _ (by simpa using f1.symm)

theorem Try.info23 : (Try.prog.info? 23).map (fun i => (i.zero, i.size, i.bytes)) = some (some (.pointer none), 1, 8) := by kernel_rfl
theorem Try.info27 : (Try.prog.info? 27).map (fun i => (i.zero, i.size, i.bytes)) = some (some (.pointer none), 1, 8) := by kernel_rfl
/-- One pointer more. -/
theorem app_ptr {W : World} {K : Nat} {e st : TypeId} (hst : Try.prog.underlying st = some (.slice e)) (hinfo : (Try.prog.info? e).map (fun i => (i.zero, i.size, i.bytes)) = some (some (.pointer none), 1, 8)) {a : Option Addr} {v : Value} {l : List Value} {cs : List Comp} (A : All (ownC e v l :: cs) W) (hK : W.heap[K]? = some (.cells #[.pointer a] e (0, 0))) (hlen : l.length ≤ 1000) :
    ∃ ao c w', (Builtin.append_ #[st, st] st #[v, .slice (some ⟨K, 0, none⟩) 1 1]).run Try.prog W = .ok (.slice ao (l.length + 1) c) w' ∧ All (ownC e (.slice ao (l.length + 1) c) (l ++ [.pointer a]) :: cs) w' := by
  obtain ⟨i1, hi1, hz0, hz1, hz2⟩ := info_parts hinfo
  have h1c : ∀ u ∈ [Value.pointer a], u.oneCell' = true := fun u hu => by
    rw [List.mem_singleton.1 hu]
    rfl
  obtain ⟨v', w', hr, h2, h3, h4, h5⟩ := run_append_own_at (P := Try.prog) W 0 st st e i1 _ 1 8 hst hi1 hz0 hz1 hz2 rfl (by decide) v l.length l A.1.2.1 ⟨K, 0, none⟩ 1 1 [.pointer a] rfl
    (fun j u hu => by rw [Addr.add_lit, Nat.zero_add, cell_at hK]; exact (List.getElem?_toArray (xs := [Value.pointer a]) ..).trans hu) h1c (by unfold maxLen; omega) (by omega) (by omega)
  obtain ⟨ao, c, rfl⟩ := owns_form h2
  exact ⟨ao, c, w', hr, A.ownGrow (vs' := l ++ [.pointer a]) (by rw [List.length_append]; exact h2) h3 h5⟩
theorem All.ownSet {e : TypeId} {g n c j : Nat} {vs : List Value} {u : Value} {cs : List Comp} {w : World} (h : All (ownC e (.slice (some ⟨g, 0, none⟩) n c) vs :: cs) w) : All (ownC e (.slice (some ⟨g, 0, none⟩) n c) (vs.set j u) :: cs) (w.setCell ⟨g, j, none⟩ u) := by
  have ho : w.ownsRow 0 e 1 (.slice (some ⟨g, 0, none⟩) n c) vs.length vs := h.1.2.1
  have hn : n = vs.length := (owns_len ho).1
  subst hn
  have hs := (World.ownsRow.stored ho j u).1
  refine h.turn (Fr.setCell w g j _) (ownC_good _ _ _) (by show World.ownsRow _ _ _ _ _ _ _; rw [List.length_set]; exact hs) (Gr.refl _ _) (fun k' hk' => ?_)
  have := h.1.2.2 k' hk'
  simpa [World.setCell] using this
theorem own_free {w : World} {e : TypeId} {g n c : Nat} {vs : List Value} (h : w.ownsRow 0 e 1 (.slice (some ⟨g, 0, none⟩) n c) vs.length vs) (j : Nat) : w.frozen? ⟨g, j, none⟩ = false := by
  rcases h.2 with ⟨h1, _⟩ | ⟨g', cap, cur, h1, _, hgg, _⟩
  · cases h1
  · simp only [Value.slice.injEq, Option.some.injEq, Addr.mk.injEq, and_true] at h1
    obtain ⟨rfl, _⟩ := h1
    exact free_at hgg j

theorem clone_perm {X Y Z R : List Comp} {w : World} (h : All (X ++ (Y ++ (Z ++ R))) w) : All (Z ++ (X ++ (Y ++ R))) w := by
  refine h.perm ?_
  have := perm_by 4 [X, Y, Z, R] [2, 0, 1, 3] rfl (by decide)
  simpa [List.getD] using this
theorem clone_perm1 {X Y Z A B R : List Comp} {w : World} (h : All (X ++ (Y ++ (Z ++ (A ++ (B ++ R))))) w) : All (Y ++ (Z ++ (A ++ (B ++ (X ++ R))))) w := by
  refine h.perm ?_
  have := perm_by 6 [X, Y, Z, A, B, R] [1, 2, 3, 4, 0, 5] rfl (by decide)
  simpa [List.getD] using this
theorem clone_perm2 {RP R0 LP L0 A B R : List Comp} {w : World} (h : All (RP ++ (R0 ++ (L0 ++ (A ++ (B ++ (LP ++ R)))))) w) : All (L0 ++ (R0 ++ (A ++ (B ++ (LP ++ (RP ++ R)))))) w := by
  refine h.perm ?_
  have := perm_by 7 [RP, R0, L0, A, B, LP, R] [2, 1, 3, 4, 5, 0, 6] rfl (by decide)
  simpa [List.getD] using this

set_option maxHeartbeats 1600000 in
set_option maxRecDepth 1000000 in
theorem dclone_any {n D k i : Nat} {va vb vm : Value} {T : List Tw} {M : List Mk} {cs : List Comp} {w : World} (tz : Int) (hA : All (deskL n D va vb vm T M ++ cs) w) (hF : DF n T M i) (hk : k < T.length) : Calls Try.prog 36 #[.pointer (some ⟨D, 0, none⟩), .int .i64 (k : Int), .int .i64 tz] w fun e w' => e = .returned (.bool true) ∧ DeskI n D T.length (i + 1) cs w' := by
  obtain ⟨t, hT⟩ : ∃ t, Hid (T[k]? = some t) := ⟨_, hid (List.getElem?_eq_getElem hk)⟩
  have hok := hid (hF.ok t (List.mem_of_getElem? hT.out))
  obtain ⟨ra, ca, rb, cb, rfl, rfl, RD⟩ := desk_reads hT.out hA
  obtain ⟨c0, c1, pa, pb⟩ := RD
  have j1 : (k : Int) < (T.length : Int) := by omega
  have hle : t.L.length ≤ 64 := Nat.le_trans hok.out.few hok.out.le
  have HF := hid hF
  have hT4 := hF.four
  have hlA : (pA T).length ≤ 1000 := by rw [pA_len]; omega
  have hlB : (pB T).length ≤ 1000 := by rw [pB_len]; omega
  have C46 := hid (Clone_any (desk_out hT.out hA) hok.out)
  have C20 := hid (fun W Z (A : All (refP t.p n t.b t.v t.L ++ Z) W) => rClone_any (w := W) (cs := Z) A hle)
  clear hA hF
  go_enter Try.func36, Try.ntmps36
  go_wp2_with fail
  refine C46.out.mono ?_
  rintro e w1 ⟨g', h', rfl, B1⟩
  have B1' := hid (clone_perm1 B1)
  obtain ⟨c0, c1, pa, pb⟩ := desk_rd hT.out (desk_back hT.out B1'.out)
  have C20' := hid (C20.out _ _ B1'.out.flip)
  clear C46 B1 C20
  go_wp2_with fail
  refine C20'.out.mono ?_
  rintro e w2 ⟨p', v', rfl, B2⟩
  have B3 := hid (desk_back hT.out (clone_perm2 B2))
  clear C20' B2 B1' c0 c1 pa pb
  obtain ⟨c0, c1, pa, pb⟩ := desk_rd hT.out B3.out
  obtain ⟨t', ht'⟩ : ∃ t' : Tw, Hid (t' = ⟨g', h', p', t.b, v', t.L, t.ps⟩) := ⟨_, hid rfl⟩
  have B4 := hid (hd_rows (t' := ⟨g', h', p', t.b, v', t.L, t.ps⟩) B3.out)
  have hok' : Hid (Tw.ok n ⟨g', h', p', t.b, v', t.L, t.ps⟩) := hid hok.out
  clear B3 pa pb
  by_cases h4 : T.length < 4
  · have q1 : decide ((T.length : Int) < 4) = true := decide_eq_true (by omega)
    have q2 : (T.length : Int) < 4 := by omega
    have hDl := World.block_lt_of_cell? _ _ c0
    obtain ⟨a3, k3, w3, hr3, B5⟩ := app_ptr (st := 31) Try.underlying31 Try.info23 (a := some ⟨g', 0, none⟩) (B4.out.alloc (.cells #[.pointer (some ⟨g', 0, none⟩)] 23)) (heap_alloc_new w2 _) hlA
    have e3 := B5.tail.1.2.1
    have d0 : w3.cell? ⟨D, 0, none⟩ = some (.slice (some ⟨ra, 0, none⟩) T.length ca) := by rw [cell_at e3]; rfl
    have f0 := free_at e3 0
    have B6 := B5.swap.setBlk 0 (.slice a3 ((pA T).length + 1) k3)
    have e4 := B6.1.2.1
    have hsz : (w3.setCell ⟨D, 0, none⟩ (.slice a3 ((pA T).length + 1) k3)).heap.size = w3.heap.size := by simp [World.setCell]
    have d1 : w3.cell? ⟨D, 1, none⟩ = some (.slice (some ⟨rb, 0, none⟩) T.length cb) := by rw [cell_at e3]; rfl
    obtain ⟨a4, k4, w4, hr4, B7⟩ := app_ptr (st := 32) Try.underlying32 Try.info27 (a := some ⟨p', 0, none⟩) (B6.cab.alloc (.cells #[.pointer (some ⟨p', 0, none⟩)] 27)) (heap_alloc_new _ _) hlB
    have e5 := B7.tail.1.2.1
    have d2 : w4.cell? ⟨D, 1, none⟩ = some (.slice (some ⟨rb, 0, none⟩) T.length cb) := by rw [cell_at e5]; rfl
    have f2 := free_at e5 1
    have B8 := hid (rows_app (t' := ⟨g', h', p', t.b, v', t.L, t.ps⟩) (B7.swap.setBlk 1 (.slice a4 ((pB T).length + 1) k4)))
    rw [hsz] at hr4
    rw [pA_len] at hr3 hr4 B8
    rw [pB_len] at hr4 B8
    have HR3 := hid hr3
    have HR4 := hid hr4
    have hDl3 := World.block_lt_of_cell? _ _ d0
    clear hr3 hr4 B5 B6 B7 e3 e4 e5 hsz B4
    go_wp2_with (first | (at_builtin; refine wpList_append_run rfl (.tmp 37) (.tmp 39) 31 rfl _ _ _ _ rfl rfl HR3.out ?_) | (at_builtin; refine wpList_append_run rfl (.tmp 47) (.tmp 49) 32 rfl _ _ _ _ rfl rfl HR4.out ?_))
    go_ret
    refine ⟨rfl, _, _, _, T ++ [⟨g', h', p', t.b, v', t.L, t.ps⟩], M, by simp, ⟨fun x hx => ?_, by simp, by simp; omega, Nat.le_succ_of_le HF.out.few, HF.out.short⟩, B8.out⟩
    rcases List.mem_append.1 hx with hx | hx
    · exact HF.out.ok x hx
    · rw [List.mem_singleton.1 hx]; exact hok'.out
  · have q1 : decide ((T.length : Int) < 4) = false := decide_eq_false (by omega)
    have q2 : ¬ (T.length : Int) < 4 := by omega
    obtain ⟨m, hm⟩ : ∃ m, m = amN tz 4 := ⟨_, rfl⟩
    have hm4 : m < 4 := by rw [hm]; exact amN_lt tz (by decide)
    have C8 : Hid (Calls Try.prog 8 #[.int .i64 tz, .int .i64 4] w2 fun e w' => e = .returned (.int .i64 (m : Int)) ∧ w' = w2) := hid (by rw [hm]; exact among_is tz 4 (by decide) (by decide))
    have hm5 : m < T.length := by omega
    obtain ⟨u, hu⟩ : ∃ u, Hid (T[m]? = some u) := ⟨_, hid (List.getElem?_eq_getElem hm5)⟩
    have j2 : (m : Int) < (T.length : Int) := by omega
    obtain ⟨_, e1, x1, f1⟩ := owns_at B4.out.1.2.1 (k := m) (u := .pointer (some ⟨u.g, 0, none⟩)) (by simp [pA, hu.out])
    cases e1
    have B5 := B4.out.ownSet (j := m) (u := .pointer (some ⟨g', 0, none⟩))
    obtain ⟨_, e2, x2, f2⟩ := owns_at B5.tail.tail.1.2.1 (k := m) (u := .pointer (some ⟨u.p, 0, none⟩)) (by simp [pB, hu.out])
    cases e2
    have eD := B5.tail.1.2.1
    have d1 : (w2.setCell ⟨ra, m, none⟩ (.pointer (some ⟨g', 0, none⟩))).cell? ⟨D, 1, none⟩ = some (.slice (some ⟨rb, 0, none⟩) T.length cb) := by rw [cell_at eD]; rfl
    have B6 := hid (rows_set (t' := ⟨g', h', p', t.b, v', t.L, t.ps⟩) hu.out (B5.cab.ownSet (j := m) (u := .pointer (some ⟨p', 0, none⟩))))
    clear B5 B4 eD hm
    go_wp2_with fail
    refine C8.out.mono ?_
    rintro e w3 ⟨rfl, rfl⟩
    clear C8
    go_wp2
    go_ret
    refine ⟨rfl, _, _, _, T.set m ⟨g', h', p', t.b, v', t.L, t.ps⟩, M, by simp, HF.out.set hok'.out, B6.out⟩
end Go.Proofs.Ythjoppgomopkfaa

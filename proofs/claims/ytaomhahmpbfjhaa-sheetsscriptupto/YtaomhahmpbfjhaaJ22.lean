import Derived.Test.YtaomhahmpbfjhaaJ12
import Derived.Test.YtaomhahmpbfjhaaRSnap
import Derived.Test.YtaomhahmpbfjhaaJ10
import Derived.Test.YtaomhahmpbfjhaaJ14
import Derived.Test.YtaomhahmpbfjhaaJ15
import Derived.Test.YtaomhahmpbfjhaaJ17
import Derived.Test.YtaomhahmpbfjhaaJ18
import Derived.Test.YtaomhahmpbfjhaaJ20
namespace Go.Proofs.Ytaomhahmpbfjhaa
open Go.RowKit
set_option linter.unusedVariables false

theorem Try.info23 : (Try.prog.info? 23).map (fun i => (i.zero, i.size, i.bytes)) = some (some (.pointer none), 1, 8) := by kernel_rfl
theorem Try.info27 : (Try.prog.info? 27).map (fun i => (i.zero, i.size, i.bytes)) = some (some (.pointer none), 1, 8) := by kernel_rfl
/-- One pointer more. -/
theorem app_ptr {W : World} {K : Nat} {e st : TypeId} (hst : Try.prog.underlying st = some (.slice e)) (hinfo : (Try.prog.info? e).map (fun i => (i.zero, i.size, i.bytes)) = some (some (.pointer none), 1, 8)) {a : Option Addr} {v : Value} {l : List Value} {cs : List Comp} (A : All (ownC e v l :: cs) W) (hK : W.heap[K]? = some (.cells #[.pointer a] e (0, 0))) (hlen : l.length ≤ 1000) :
    ∃ ao c w', (Builtin.append_ #[st, st] st #[v, .slice (some ⟨K, 0, none⟩) 1 1]).run Try.prog W = .ok (.slice ao (l.length + 1) c) w' ∧ All (ownC e (.slice ao (l.length + 1) c) (l ++ [.pointer a]) :: cs) w' := by
  obtain ⟨i1, hi1, hz0, hz1, hz2⟩ := info_parts hinfo
  have h1c : ∀ u ∈ [Value.pointer a], u.oneCell' = true := fun u hu => by
    rw [List.mem_singleton.1 hu]
    rfl
  obtain ⟨v', w', hr, h2, h3, h4, h5⟩ := run_append_own_at (P := Try.prog) W 0 st st e i1 _ 1 8 hst hi1 hz0 hz1 hz2 rfl (by decide) v l.length l A.1.2.1 ⟨K, 0, none⟩ 1 1 [.pointer a] rfl
    (fun j u hu => by rw [Addr.add_lit, Nat.zero_add, cell_at hK]; exact (List.getElem?_toArray (xs := [Value.pointer a]) ..).trans hu) h1c (by unfold maxLen; omega) (by omega) (by omega)
  obtain ⟨ao, c, rfl⟩ := owns_form h2
  exact ⟨ao, c, w', hr, A.ownGrow (vs' := l ++ [.pointer a]) (by rw [List.length_append]; exact h2) h3 h5⟩

theorem hd_perm {D : Nat} {va vb vm : Value} {ga gb : List Value} {M : List Mk} {Z : List Comp} : (hdL D va vb vm ga gb M ++ Z).Perm (ownC 23 va ga :: blkC D [va, vb, vm] 35 :: ownC 27 vb gb :: (markC vm M :: (M.map Mk.comp ++ Z))) := by
  have := perm_by 6 [[blkC D [va, vb, vm] 35], [ownC 23 va ga], [ownC 27 vb gb], [markC vm M], M.map Mk.comp, Z] [1, 0, 2, 3, 4, 5] rfl (by decide)
  simpa [List.getD, hdL] using this
theorem hd_appA {D P' : Nat} {va vb vm : Value} {ga gb : List Value} {M : List Mk} {Z : List Comp} {w : World} (hA : All (hdL D va vb vm ga gb M ++ Z) w) (hlen : ga.length ≤ 1000) :
    ∃ ao c w3, (Builtin.append_ #[31, 31] 31 #[va, .slice (some ⟨w.heap.size, 0, none⟩) 1 1]).run Try.prog (w.alloc (.cells #[.pointer (some ⟨P', 0, none⟩)] 23)) = .ok (.slice ao (ga.length + 1) c) w3 ∧ w3.cell? ⟨D, 0, none⟩ = some va ∧ w3.frozen? ⟨D, 0, none⟩ = false ∧ Hid (All (hdL D (.slice ao (ga.length + 1) c) vb vm (ga ++ [.pointer (some ⟨P', 0, none⟩)]) gb M ++ Z) (w3.setCell ⟨D, 0, none⟩ (.slice ao (ga.length + 1) c))) := by
  have h1 := hA.perm hd_perm
  obtain ⟨ao, c, w3, hr, B⟩ := app_ptr (st := 31) Try.underlying31 Try.info23 (a := some ⟨P', 0, none⟩) (h1.alloc (.cells #[.pointer (some ⟨P', 0, none⟩)] 23)) (heap_alloc_new w _) hlen
  have e3 := B.tail.1.2.1
  exact ⟨ao, c, w3, hr, by rw [cell_at e3]; rfl, free_at e3 0, hid ((B.swap.setBlk 0 (.slice ao (ga.length + 1) c)).swap.perm hd_perm.symm)⟩
theorem hd_appB {D R' : Nat} {va vb vm : Value} {ga gb : List Value} {M : List Mk} {Z : List Comp} {w : World} (hA : All (hdL D va vb vm ga gb M ++ Z) w) (hlen : gb.length ≤ 1000) :
    ∃ ao c w3, (Builtin.append_ #[32, 32] 32 #[vb, .slice (some ⟨w.heap.size, 0, none⟩) 1 1]).run Try.prog (w.alloc (.cells #[.pointer (some ⟨R', 0, none⟩)] 27)) = .ok (.slice ao (gb.length + 1) c) w3 ∧ w3.cell? ⟨D, 1, none⟩ = some vb ∧ w3.frozen? ⟨D, 1, none⟩ = false ∧ Hid (All (hdL D va (.slice ao (gb.length + 1) c) vm ga (gb ++ [.pointer (some ⟨R', 0, none⟩)]) M ++ Z) (w3.setCell ⟨D, 1, none⟩ (.slice ao (gb.length + 1) c))) := by
  have h1 := (hA.perm hd_perm).cab
  obtain ⟨ao, c, w3, hr, B⟩ := app_ptr (st := 32) Try.underlying32 Try.info27 (a := some ⟨R', 0, none⟩) (h1.alloc (.cells #[.pointer (some ⟨R', 0, none⟩)] 27)) (heap_alloc_new w _) hlen
  have e3 := B.tail.tail.1.2.1
  refine ⟨ao, c, w3, hr, by rw [cell_at e3]; rfl, free_at e3 1, hid ?_⟩
  exact ((B.cab.setBlk 1 (.slice ao (gb.length + 1) c)).cab.perm hd_perm.symm)
theorem hd_setA {D ra n c j : Nat} {vb vm u : Value} {ga gb : List Value} {M : List Mk} {Z : List Comp} {w : World} (hA : All (hdL D (.slice (some ⟨ra, 0, none⟩) n c) vb vm ga gb M ++ Z) w) : All (hdL D (.slice (some ⟨ra, 0, none⟩) n c) vb vm (ga.set j u) gb M ++ Z) (w.setCell ⟨ra, j, none⟩ u) :=
  ((hA.perm hd_perm).ownPut (j := j) (u := u)).perm hd_perm.symm
theorem hd_setB {D rb n c j : Nat} {va vm u : Value} {ga gb : List Value} {M : List Mk} {Z : List Comp} {w : World} (hA : All (hdL D va (.slice (some ⟨rb, 0, none⟩) n c) vm ga gb M ++ Z) w) : All (hdL D va (.slice (some ⟨rb, 0, none⟩) n c) vm ga (gb.set j u) M ++ Z) (w.setCell ⟨rb, j, none⟩ u) :=
  ((hA.perm hd_perm).cab.ownPut (j := j) (u := u)).bca.perm hd_perm.symm

theorem Snap_in {n : Nat} {Q : Pool} {T : List Tq} {k : Nat} {t : Tq} {X Z : List Comp} {w : World} (hT : T[k]? = some t) (hok : t.ok Q n) (hA : All (X ++ (poolC Q :: (T.flatMap (Tq.parts n) ++ Z))) w) : Calls Try.prog 17 #[.pointer (some ⟨t.g, 0, none⟩)] w fun e w' => ∃ g2, e = .returned (.pointer (some ⟨g2, 0, none⟩)) ∧ All (X ++ (poolC Q :: (T.flatMap (Tq.parts n) ++ (blkC g2 (bookL n t.lv t.ps) 70 :: Z)))) w' := by
  have P1 : ∀ Z, (X ++ (poolC Q :: (T.flatMap (Tq.parts n) ++ Z))).Perm (poolC Q :: blkC t.g (bookL n t.lv t.ps) 70 :: (refL t.R t.v t.rs ++ (X ++ (OT n T k ++ Z)))) := fun Z => by
    have := ((flat_mid (n := n) hT (X ++ [poolC Q]) Z t).2).trans (out_perm n _ Q t _)
    simpa [List.append_assoc] using this
  refine (Snap_all (hA.perm (P1 Z)) hok.bk).mono ?_
  rintro e w' ⟨g2, rfl, A⟩
  refine ⟨g2, rfl, A.perm ((List.Perm.cons _ (List.Perm.cons _ ?_)).trans (P1 _).symm)⟩
  have := perm_by 5 [[blkC g2 (bookL n t.lv t.ps) 70], refL t.R t.v t.rs, X, OT n T k, Z] [1, 2, 3, 0, 4] rfl (by decide)
  simpa [List.getD] using this
theorem RSnap_in {n : Nat} {Q : Pool} {T : List Tq} {k : Nat} {t : Tq} {X Z : List Comp} {w : World} (hT : T[k]? = some t) (hok : t.ok Q n) (hA : All (X ++ (poolC Q :: (T.flatMap (Tq.parts n) ++ Z))) w) : Calls Try.prog 52 #[.pointer (some ⟨t.R, 0, none⟩)] w fun e w' => ∃ R' v' zs, e = .returned (.pointer (some ⟨R', 0, none⟩)) ∧ RS n zs t.S ∧ All (X ++ (poolC Q :: (T.flatMap (Tq.parts n) ++ (refL R' v' zs ++ Z)))) w' := by
  have P1 : ∀ Z, (X ++ (poolC Q :: (T.flatMap (Tq.parts n) ++ Z))).Perm (poolC Q :: blkC t.g (bookL n t.lv t.ps) 70 :: (refL t.R t.v t.rs ++ (X ++ (OT n T k ++ Z)))) := fun Z => by
    have := ((flat_mid (n := n) hT (X ++ [poolC Q]) Z t).2).trans (out_perm n _ Q t _)
    simpa [List.append_assoc] using this
  have hn64 : n ≤ 64 := Nat.le_trans hok.bk.nlv hok.bk.lv64
  refine (rSnap_all (hA.perm (P1 Z)).refF hok.rs hn64 (fun i => (hok.bk.cap i).2)).mono ?_
  rintro e w' ⟨R', v', zs, rfl, hS, A⟩
  refine ⟨R', v', zs, rfl, hS, A.perm (List.Perm.trans ?_ (P1 _).symm)⟩
  have := perm_by 6 [refL R' v' zs, refL t.R t.v t.rs, [poolC Q, blkC t.g (bookL n t.lv t.ps) 70], X, OT n T k, Z] [2, 1, 3, 4, 0, 5] rfl (by decide)
  simpa [List.getD] using this
theorem desk_app {D n : Nat} {va vb vm : Value} {Q : Pool} {T : List Tq} {M : List Mk} {t' : Tq} {cs : List Comp} {w : World} (h : All (hdL D va vb vm (pA T ++ [.pointer (some ⟨t'.g, 0, none⟩)]) (pB T ++ [.pointer (some ⟨t'.R, 0, none⟩)]) M ++ (poolC Q :: (T.flatMap (Tq.parts n) ++ (refL t'.R t'.v t'.rs ++ (blkC t'.g (bookL n t'.lv t'.ps) 70 :: cs))))) w) : All (deskL D n va vb vm Q (T ++ [t']) M ++ cs) w := by
  refine h.perm ?_
  have := perm_by 6 [hdL D va vb vm (pA T ++ [.pointer (some ⟨t'.g, 0, none⟩)]) (pB T ++ [.pointer (some ⟨t'.R, 0, none⟩)]) M, [poolC Q], T.flatMap (Tq.parts n), refL t'.R t'.v t'.rs, [blkC t'.g (bookL n t'.lv t'.ps) 70], cs] [0, 1, 2, 4, 3, 5] rfl (by decide)
  simpa [List.getD, deskL, pA, pB, Tq.parts] using this
theorem desk_set {D n m : Nat} {va vb vm : Value} {Q : Pool} {T : List Tq} {M : List Mk} {t' u : Tq} {cs : List Comp} {w : World} (hu : T[m]? = some u) (h : All (hdL D va vb vm ((pA T).set m (.pointer (some ⟨t'.g, 0, none⟩))) ((pB T).set m (.pointer (some ⟨t'.R, 0, none⟩))) M ++ (poolC Q :: (T.flatMap (Tq.parts n) ++ (refL t'.R t'.v t'.rs ++ (blkC t'.g (bookL n t'.lv t'.ps) 70 :: cs))))) w) : All (deskL D n va vb vm Q (T.set m t') M ++ cs) w := by
  have e1 : pA (T.set m t') = (pA T).set m (.pointer (some ⟨t'.g, 0, none⟩)) := by unfold pA; rw [List.map_set]
  have e2 : pB (T.set m t') = (pB T).set m (.pointer (some ⟨t'.R, 0, none⟩)) := by unfold pB; rw [List.map_set]
  generalize hH : hdL D va vb vm ((pA T).set m (.pointer (some ⟨t'.g, 0, none⟩))) ((pB T).set m (.pointer (some ⟨t'.R, 0, none⟩))) M = H at h
  have h0 : All ((H ++ [poolC Q]) ++ (T.flatMap (Tq.parts n) ++ (refL t'.R t'.v t'.rs ++ (blkC t'.g (bookL n t'.lv t'.ps) 70 :: cs)))) w := by simpa [List.append_assoc] using h
  have h1 := h0.perm (flat_mid (n := n) hu (H ++ [poolC Q]) (refL t'.R t'.v t'.rs ++ (blkC t'.g (bookL n t'.lv t'.ps) 70 :: cs)) u).2
  have h2 := h1.sublist (List.sublist_append_right _ _)
  unfold deskL
  rw [e1, e2, hH]
  have h3 := h2.perm (List.Perm.trans (by
    have := perm_by 5 [H ++ [poolC Q], OT n T m, refL t'.R t'.v t'.rs, [blkC t'.g (bookL n t'.lv t'.ps) 70], cs] [3, 2, 0, 1, 4] rfl (by decide)
    simpa [List.getD, Tq.parts] using this) (flat_mid (n := n) hu (H ++ [poolC Q]) cs t').1.symm)
  simpa [List.append_assoc] using h3
theorem own_rd {w : World} {Z : List Comp} {e : TypeId} {g n c j : Nat} {vs : List Value} {u : Value} (hA : All Z w) (hm : ownC e (.slice (some ⟨g, 0, none⟩) n c) vs ∈ Z) (hu : vs[j]? = some u) : w.cell? ⟨g, j, none⟩ = some u ∧ w.frozen? ⟨g, j, none⟩ = false := by
  obtain ⟨_, e1, p, f⟩ := owns_at (show w.ownsRow 0 e 1 (.slice (some ⟨g, 0, none⟩) n c) vs.length vs from (hA.mem hm).2.1) hu
  cases e1
  exact ⟨p, f⟩

set_option maxHeartbeats 1600000 in
set_option maxRecDepth 1000000 in
theorem snap_any {D n k i : Nat} {va vb vm : Value} {Q : Pool} {T : List Tq} {M : List Mk} {cs : List Comp} {w : World} (tz : Int) (hA : All (deskL D n va vb vm Q T M ++ cs) w) (hF : DF Q n T M i) (hk : k < T.length) : Calls Try.prog 32 #[.pointer (some ⟨D, 0, none⟩), .int .i64 (k : Int), .int .i64 tz] w fun e w' => e = .returned (.bool true) ∧ DeskI D n T.length i cs w' := by
  obtain ⟨t, hT⟩ : ∃ t, Hid (T[k]? = some t) := ⟨_, hid (List.getElem?_eq_getElem hk)⟩
  have hok := hid (hF.ok t (List.mem_of_getElem? hT.out))
  obtain ⟨ra, ca, rb, cb, rfl, rfl, RD⟩ := desk_reads hT.out hA
  obtain ⟨c0, c1, pa, pb⟩ := RD
  have j1 : (k : Int) < (T.length : Int) := by omega
  have HF := hid hF
  have hT4 := hF.four
  have hlA : (pA T).length ≤ 1000 := by rw [pA_len]; omega
  have hlB : (pB T).length ≤ 1000 := by rw [pB_len]; omega
  have A0 := hid (show All (hdL D (.slice (some ⟨ra, 0, none⟩) T.length ca) (.slice (some ⟨rb, 0, none⟩) T.length cb) vm (pA T) (pB T) M ++ (poolC Q :: (T.flatMap (Tq.parts n) ++ cs))) w by
    unfold deskL at hA
    simpa only [List.append_assoc, List.cons_append] using hA)
  clear hA hF
  go_enter Try.func32, Try.ntmps32
  go_wp2_with fail
  refine (Snap_in hT.out hok.out A0.out).mono ?_
  rintro e w1 ⟨g2, rfl, A1⟩
  have A1 := hid A1
  clear c0 c1 pa pb A0
  obtain ⟨c0, c1, pa, pb⟩ := hd_reads (X := []) hT.out A1.out
  go_wp2_with fail
  refine (RSnap_in hT.out hok.out A1.out).mono ?_
  rintro e w2 ⟨R', v', zs, rfl, hS, A2⟩
  have A2 := hid A2
  have HS := hid hS
  clear c0 c1 pa pb A1 hS
  obtain ⟨c0, c1, pa, pb⟩ := hd_reads (X := []) hT.out A2.out
  have hok' : Hid (Tq.ok Q n ⟨g2, R', t.lv, t.ps, t.N, v', zs, t.S⟩) := hid ⟨hok.out.bk, HS.out⟩
  by_cases h4 : T.length < 4
  · have q1 : decide ((T.length : Int) < 4) = true := decide_eq_true (by omega)
    have q2 : (T.length : Int) < 4 := by omega
    have hDl := World.block_lt_of_cell? _ _ c0
    obtain ⟨a3, k3, w3, hr3, d0, f0, B3⟩ := hd_appA (P' := g2) A2.out hlA
    rw [pA_len] at hr3 B3
    have HR3 := hid hr3
    clear hr3
    have hDl3 := World.block_lt_of_cell? _ _ d0
    have eD : (w3.setCell ⟨D, 0, none⟩ (.slice a3 (T.length + 1) k3)).heap[D]? = some (.cells [.slice a3 (T.length + 1) k3, .slice (some ⟨rb, 0, none⟩) T.length cb, vm].toArray 35 (0, 0)) := B3.out.blk (by simp [hdL])
    have d1 : (w3.setCell ⟨D, 0, none⟩ (.slice a3 (T.length + 1) k3)).cell? ⟨D, 1, none⟩ = some (.slice (some ⟨rb, 0, none⟩) T.length cb) := by rw [cell_at eD]; rfl
    obtain ⟨a4, k4, w5, hr4, d3, f3, B5⟩ := hd_appB (R' := R') B3.out hlB
    rw [pB_len] at hr4 B5
    have HR4 := hid hr4
    have HI : Hid (DeskI D n T.length i cs (w5.setCell ⟨D, 1, none⟩ (.slice a4 (T.length + 1) k4))) := hid ⟨_, _, _, Q, T ++ [⟨g2, R', t.lv, t.ps, t.N, v', zs, t.S⟩], M, by simp, ⟨fun x hx => by
      rcases List.mem_append.1 hx with hx | hx
      · exact HF.out.ok x hx
      · rw [List.mem_singleton.1 hx]; exact hok'.out, by simp, by simp; omega, HF.out.few, HF.out.short⟩, desk_app (t' := ⟨g2, R', t.lv, t.ps, t.N, v', zs, t.S⟩) B5.out⟩
    clear hr4 B5
    go_upto_region 7 with (at_builtin; refine wpList_append_run rfl (.tmp 37) (.tmp 39) 31 rfl _ _ _ _ rfl rfl HR3.out ?_)
    clear HR3 c0 c1 pa pb d0 f0 eD hDl hDl3 A2 B3
    generalize (w3.setCell ⟨D, 0, none⟩ (.slice a3 (T.length + 1) k3)) = w4 at *
    have hDl := World.block_lt_of_cell? _ _ d1
    have hDl3 := World.block_lt_of_cell? _ _ d3
    go_wp2_with (at_builtin; refine wpList_append_run rfl (.tmp 47) (.tmp 49) 32 rfl _ _ _ _ rfl rfl HR4.out ?_)
    go_ret
    exact ⟨rfl, HI.out⟩
  · have q1 : decide ((T.length : Int) < 4) = false := decide_eq_false (by omega)
    have q2 : ¬ (T.length : Int) < 4 := by omega
    obtain ⟨m, hm⟩ : ∃ m, m = amN tz 4 := ⟨_, rfl⟩
    have hm4 : m < 4 := by rw [hm]; exact amN_lt tz (by decide)
    have C25 : Hid (∀ W, Calls Try.prog 25 #[.int .i64 tz, .int .i64 4] W fun e w' => e = .returned (.int .i64 (m : Int)) ∧ w' = W) := hid (fun W => by rw [hm]; exact among_is tz 4 (by decide) (by decide))
    have hm5 : m < T.length := by omega
    obtain ⟨u, hu⟩ : ∃ u, Hid (T[m]? = some u) := ⟨_, hid (List.getElem?_eq_getElem hm5)⟩
    have j2 : (m : Int) < (T.length : Int) := by omega
    clear hm
    go_wp2_with fail
    refine (C25.out _).mono ?_
    rintro e w3 ⟨rfl, rfl⟩
    clear C25
    obtain ⟨x1, f1⟩ := own_rd (j := m) (u := .pointer (some ⟨u.g, 0, none⟩)) A2.out (show ownC 23 (.slice (some ⟨ra, 0, none⟩) T.length ca) (pA T) ∈ _ by simp [hdL]) (by simp [pA, hu.out])
    have B4 := hid (hd_setA (j := m) (u := .pointer (some ⟨g2, 0, none⟩)) A2.out)
    have eD4 : (w3.setCell ⟨ra, m, none⟩ (.pointer (some ⟨g2, 0, none⟩))).heap[D]? = some (.cells [.slice (some ⟨ra, 0, none⟩) T.length ca, .slice (some ⟨rb, 0, none⟩) T.length cb, vm].toArray 35 (0, 0)) := B4.out.blk (by simp [hdL])
    have d1 : (w3.setCell ⟨ra, m, none⟩ (.pointer (some ⟨g2, 0, none⟩))).cell? ⟨D, 1, none⟩ = some (.slice (some ⟨rb, 0, none⟩) T.length cb) := by rw [cell_at eD4]; rfl
    obtain ⟨x2, f2⟩ := own_rd (j := m) (u := .pointer (some ⟨u.R, 0, none⟩)) B4.out (show ownC 27 (.slice (some ⟨rb, 0, none⟩) T.length cb) (pB T) ∈ _ by simp [hdL]) (by simp [pB, hu.out])
    have B5 := hid (desk_set (t' := ⟨g2, R', t.lv, t.ps, t.N, v', zs, t.S⟩) hu.out (hd_setB (j := m) (u := .pointer (some ⟨R', 0, none⟩)) B4.out))
    clear eD4 B4 A2 c1
    go_wp2
    go_ret
    exact ⟨rfl, _, _, _, Q, T.set m ⟨g2, R', t.lv, t.ps, t.N, v', zs, t.S⟩, M, by simp, HF.out.set (fun _ h => h) hok'.out HF.out.few HF.out.short, B5.out⟩
end Go.Proofs.Ytaomhahmpbfjhaa

namespace Go.Proofs.Ytaomhahmpbfjhaa
open Go.RowKit
set_option linter.unusedVariables false

set_option maxHeartbeats 3200000 in
set_option maxRecDepth 1000000 in
theorem act_6 {D n i : Nat} {va vb vm : Value} {Q : Pool} {T : List Tq} {M : List Mk} {cs : List Comp} {w w0 : World} {x : Ac} {xs : List Sh} (hA : All (deskL D n va vb vm Q T M ++ cs) w) (hF : DF Q n T M i) (hin : inC w0 ∈ cs) (hx : AcIn w0 x xs) (hi : i ≤ 1099511627000) (hm : amN x.kind 7 = 6) : Calls Try.prog 9 #[.pointer (some ⟨D, 0, none⟩), .agg x.cells.toArray] w fun e w' => e = .returned (.bool true) ∧ DeskI D n T.length (i + 64) cs w' := by
  obtain ⟨kd, bk, nu, at_, d1, d2, d3, l1, l2, l3, data⟩ := x
  have hk : amN bk T.length < T.length := amN_lt _ hF.one
  obtain ⟨k, hk0⟩ : ∃ k, amN bk T.length = k := ⟨_, rfl⟩
  rw [hk0] at hk
  obtain ⟨t, hT⟩ : ∃ t, Hid (T[k]? = some t) := ⟨_, hid (List.getElem?_eq_getElem hk)⟩
  have hok := hid (hF.ok t (List.mem_of_getElem? hT.out))
  obtain ⟨K, hK⟩ : ∃ K, Hid (K = w.heap.size) := ⟨_, hid rfl⟩
  have A1 : Hid (All (deskL D n va vb vm Q T M ++ (blkC K [.int .i64 kd, .int .i64 bk, .int .i64 nu, .int .i64 at_, .slice d1 d2 d3, .slice l1 l2 l3] 39 :: cs)) (w.alloc (.cells #[.int .i64 kd, .int .i64 bk, .int .i64 nu, .int .i64 at_, .slice d1 d2 d3, .slice l1 l2 l3] 39))) := hid (by
    have h1 := hA.addBlk [.int .i64 kd, .int .i64 bk, .int .i64 nu, .int .i64 at_, .slice d1 d2 d3, .slice l1 l2 l3] 39
    rw [← hK.out] at h1
    exact h1.perm List.perm_middle.symm)
  obtain ⟨ra, ca, rb, cb, rfl, rfl, RD⟩ := desk_reads hT.out A1.out
  obtain ⟨c0, c1, pa, pb⟩ := RD
  simp only at hm
  have HAM : Hid (∀ W : World, Calls Try.prog 25 #[.int .i64 kd, .int .i64 7] W fun e w' => e = .returned (.int .i64 6) ∧ w' = W) := hid (fun W => by
    refine (among_is kd 7 (by decide) (by decide)).mono ?_
    rintro e w' ⟨rfl, rfl⟩
    rw [hm]
    exact ⟨rfl, rfl⟩)
  have HAK : Hid (∀ W : World, Calls Try.prog 25 #[.int .i64 bk, .int .i64 (T.length : Int)] W fun e w' => e = .returned (.int .i64 (k : Int)) ∧ w' = W) := hid (fun W => by
    refine (among_is bk T.length hF.one (by have := hF.four; omega)).mono ?_
    rintro e w' ⟨rfl, rfl⟩
    rw [hk0]
    exact ⟨rfl, rfl⟩)
  have HF := hid hF
  have HX := hid hx
  have HIN := hid hin
  have hN4 := hF.four
  have HKL := hid hk
  have j1 : (k : Int) < (T.length : Int) := by omega
  generalize hN : T.length = N at *
  have HN := hid hN
  clear hA hF hm hN hk0 hx hin hk
  show Calls Try.prog 9 #[.pointer (some ⟨D, 0, none⟩), .agg #[.int .i64 kd, .int .i64 bk, .int .i64 nu, .int .i64 at_, .slice d1 d2 d3, .slice l1 l2 l3]] w _
  go_enter Try.func9, Try.ntmps9
  go_upto_region 1 with fail
  rw [← hK.out]
  clear hK
  have ZZ : Hid (∀ (Y : List Comp) W, All (Y ++ (blkC K [.int .i64 kd, .int .i64 bk, .int .i64 nu, .int .i64 at_, .slice d1 d2 d3, .slice l1 l2 l3] 39 :: cs)) W → W.cell? ⟨K, 0, none⟩ = some (.int .i64 kd) ∧ W.cell? ⟨K, 1, none⟩ = some (.int .i64 bk) ∧ W.cell? ⟨K, 2, none⟩ = some (.int .i64 nu) ∧ W.cell? ⟨K, 3, none⟩ = some (.int .i64 at_) ∧ W.cell? ⟨K, 4, none⟩ = some (.slice d1 d2 d3) ∧ W.cell? ⟨K, 5, none⟩ = some (.slice l1 l2 l3)) := hid (fun Y W hW => by
    have e : W.heap[K]? = some (.cells [.int .i64 kd, .int .i64 bk, .int .i64 nu, .int .i64 at_, .slice d1 d2 d3, .slice l1 l2 l3].toArray 39 (0, 0)) := hW.blk (by simp)
    refine ⟨?_, ?_, ?_, ?_, ?_, ?_⟩ <;> (rw [cell_at e]; rfl))
  generalize (w.alloc (.cells #[.int .i64 kd, .int .i64 bk, .int .i64 nu, .int .i64 at_, .slice d1 d2 d3, .slice l1 l2 l3] 39)) = w1 at *
  obtain ⟨z0, z1, z2, z3, z4, z5⟩ := ZZ.out _ _ A1.out
  go_region_held3 (fun W => W.cell? ⟨K, 1, none⟩ = some (.int .i64 bk) ∧ W.cell? ⟨D, 0, none⟩ = some (.slice (some ⟨ra, 0, none⟩) N ca)) (go_keep)
    ((go_at_call 25; refine (HAK.out _).mono ?_; rintro e w3 ⟨rfl, hw3⟩; have A3 := hid A1.out.drew; rw [← hw3] at A3; obtain ⟨_, s1, _⟩ := ZZ.out _ _ A3.out; have s2 := (desk_rd hT.out A3.out).c0; clear hw3))
  clear HAK A1 c0 c1 pa pb z0 z1 z2 z3 z4 z5 s1 s2
  obtain ⟨z0, z1, z2, z3, z4, z5⟩ := ZZ.out _ _ A3.out
  go_wp2_with fail
  refine (HAM.out _).mono ?_
  rintro e w5 ⟨rfl, hw5⟩
  have A4 := hid A3.out
  rw [← hw5] at A4
  clear hw5 A3 z0 z1 z2 z3 z4 z5 HAM
  obtain ⟨z0, z1, z2, z3, z4, z5⟩ := ZZ.out _ _ A4.out
  have C := hid (snap_any nu (show All (deskL D n (.slice (some ⟨ra, 0, none⟩) N ca) (.slice (some ⟨rb, 0, none⟩) N cb) vm Q T M ++ (blkC K [.int .i64 kd, .int .i64 bk, .int .i64 nu, .int .i64 at_, .slice d1 d2 d3, .slice l1 l2 l3] 39 :: cs)) w5 from A4.out) HF.out (by rw [HN.out]; exact HKL.out))
  go_wp2_with fail
  refine C.out.mono ?_
  rintro e w6 ⟨rfl, HI⟩
  have HI := hid HI.drop
  clear C z0 z1 z2 z3 z4 z5 A4
  go_wp2
  go_ret
  exact ⟨rfl, HN.out ▸ HI.out.more (by omega)⟩
end Go.Proofs.Ytaomhahmpbfjhaa

namespace Go.Proofs.Ytaomhahmpbfjhaa
open Go.RowKit
set_option linter.unusedVariables false

theorem act_any {D n i : Nat} {va vb vm : Value} {Q : Pool} {T : List Tq} {M : List Mk} {cs : List Comp} {w w0 : World} {x : Ac} {xs : List Sh} (hA : All (deskL D n va vb vm Q T M ++ cs) w) (hF : DF Q n T M i) (hin : inC w0 ∈ cs) (hx : AcIn w0 x xs) (hi : i ≤ 1099511627000) : Calls Try.prog 9 #[.pointer (some ⟨D, 0, none⟩), .agg x.cells.toArray] w fun e w' => e = .returned (.bool true) ∧ DeskI D n T.length (i + 64) cs w' := by
  have h8 := amN_lt x.kind (n := 7) (by decide)
  obtain ⟨m, hm⟩ : ∃ m, amN x.kind 7 = m := ⟨_, rfl⟩
  rw [hm] at h8
  rcases m with _ | _ | _ | _ | _ | _ | _ | m
  · exact act_0 hA hF hin hx hi hm
  · exact act_1 hA hF hin hx hi hm
  · exact act_2 hA hF hin hx hi hm
  · exact act_3 hA hF hin hx hi hm
  · exact act_4 hA hF hin hx hi hm
  · exact act_5 hA hF hin hx hi hm
  · exact act_6 hA hF hin hx hi hm
  · omega
end Go.Proofs.Ytaomhahmpbfjhaa

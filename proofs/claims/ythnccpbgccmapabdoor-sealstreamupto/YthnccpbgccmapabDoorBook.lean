import Derived.Test.YthnccpbgccmapabDoorFound
import Derived.Test.YthnccpbgccmapabDoorSpoilT
namespace Go.Proofs.YthnccpbgccmapabDoor
open Go.RowKit
set_option linter.unusedVariables false
attribute [local go_sem ↓] Go.wp_at_zero Go.wp_at_succ

/-- A book: what was fed, how many were told. -/
def bookC (D : Nat) (fv : Value) (told : Nat) : Comp := ⟨fun w => w.heap[D]? = some (.cells #[fv, .int .i64 (told : Int)] 28 (0, 0)), [D]⟩
theorem bookC_good (D : Nat) (fv : Value) (told : Nat) : (bookC D fv told).Good := fun w w' h _ hb => (hb D (by simp [bookC])).trans h
theorem All.book_set1 {D : Nat} {fv : Value} {told : Nat} {cs : List Comp} {w : World} (h : All (bookC D fv told :: cs) w) (n : Nat) : All (bookC D fv n :: cs) (w.setCell ⟨D, 1, none⟩ (.int .i64 (n : Int))) := by
  have hg : w.heap[D]? = some (.cells #[fv, .int .i64 (told : Int)] 28 (0, 0)) := h.1.2.1
  refine h.turn (Fr.setCell w D 1 _) (bookC_good _ _ _) ?_ (fun k hk => Or.inl hk) (fun k hk => ?_)
  · have := heap_setCell_same (j := 1) hg (.int .i64 (n : Int))
    simpa [bookC] using this
  · have := h.1.2.2 k hk
    simpa [World.setCell] using this
theorem All.book_set0 {D : Nat} {fv : Value} {told : Nat} {cs : List Comp} {w : World} (h : All (bookC D fv told :: cs) w) (v : Value) : All (bookC D v told :: cs) (w.setCell ⟨D, 0, none⟩ v) := by
  have hg : w.heap[D]? = some (.cells #[fv, .int .i64 (told : Int)] 28 (0, 0)) := h.1.2.1
  refine h.turn (Fr.setCell w D 0 _) (bookC_good _ _ _) ?_ (fun k hk => Or.inl hk) (fun k hk => ?_)
  · have := heap_setCell_same (j := 0) hg v
    simpa [bookC] using this
  · have := h.1.2.2 k hk
    simpa [World.setCell] using this

/-- The shelf's parts. -/
def shelfL (S : Nat) (ov wv : Value) (es : List En) : List Comp := boxC S ov wv :: slC ov (es.map En.a) :: slC wv (es.map En.m) :: rows es

structure ShOk (tg : Bool) (es : List En) : Prop where
  ok : ∀ e ∈ es, e.la = e.lm ∧ e.la.length ≤ 1048600
  tight : tg = true → ∀ e ∈ es, Tight e.a
  small : es.length ≤ 8388608

/-- A stream's book, and the shelf. -/
def bsL (D S : Nat) (fv ov wv : Value) (fed : List UInt8) (told : Nat) (es : List En) : List Comp := bookC D fv told :: rowC fv fed :: shelfL S ov wv es

structure Nx (P D S : Nat) (fed : List UInt8) (told : Nat) (es : List En) (tg : Bool) (cs : List Comp) (fv ov wv : Value) (w : World) : Prop where
  str : Str P (fin fed).2.2 ((fin fed).1.drop told) (fin fed).2.1 (bsL D S fv ov wv fed told es ++ cs) w
  le : told ≤ (fin fed).1.length
  len : fed.length ≤ 1048576
  sh : ShOk tg es

theorem fin_payload {b p : List UInt8} (h : p ∈ (fin b).1) : p.length ≤ b.length := by
  have h1 := fin_length b
  have : p.length ≤ madeP (fin b).1 := by
    generalize (fin b).1 = ps at h
    induction ps with
    | nil => cases h
    | cons q ps ih =>
      simp only [madeP, List.map_cons, List.sum_cons] at ih ⊢
      rcases List.mem_cons.1 h with rfl | h
      · omega
      · have := ih h; omega
  omega

theorem Nx.fed {P D S : Nat} {fed : List UInt8} {told : Nat} {es : List En} {tg : Bool} {cs : List Comp} {fv ov wv : Value} {w : World} (h : Nx P D S fed told es tg cs fv ov wv w) : w.ownsRow 0 5 1 fv fed.length (cellsB fed) ∧ w.heap[D]? = some (.cells #[fv, .int .i64 (told : Int)] 28 (0, 0)) :=
  ⟨h.str.mem (c := rowC fv fed) (by simp [bsL]), h.str.mem (c := bookC D fv told) (by simp [bsL])⟩

/-- Parts that nobody names any more. -/
theorem All.drops {xs ys zs : List Comp} {w : World} (h : All (xs ++ (ys ++ zs)) w) : All (xs ++ zs) w := by
  induction ys with
  | nil => exact h
  | cons y ys ih => exact ih (All.mid h)

theorem Str.drops {P : Nat} {X : List UInt8} {ps : List (List UInt8)} {L : Nat} {ys cs : List Comp} {w : World} (h : Str P X ps L (ys ++ cs) w) : Str P X ps L cs w := by
  obtain ⟨v, hv, hA⟩ := h
  exact ⟨v, hv, hA.drops⟩

/-- The shelf behind one more list. -/
theorem shelf_kept {S : Nat} {ov' wv' x m : Value} {p : List UInt8} {es : List En} {cs : List Comp} {w : World} (h : All (boxC S ov' wv' :: slC ov' (es.map En.a ++ [x]) :: slC wv' (es.map En.m ++ [m]) :: rowC x p :: rowC m p :: (rows es ++ cs)) w) : All (shelfL S ov' wv' (es ++ [⟨x, m, p, p⟩]) ++ cs) w := by
  refine h.perm ?_
  have e : shelfL S ov' wv' (es ++ [(⟨x, m, p, p⟩ : En)]) ++ cs = boxC S ov' wv' :: slC ov' (es.map En.a ++ [x]) :: slC wv' (es.map En.m ++ [m]) :: (rows es ++ (rowC x p :: rowC m p :: cs)) := by simp [shelfL, rows]
  rw [e]
  refine List.Perm.cons _ (List.Perm.cons _ (List.Perm.cons _ ?_))
  exact (List.perm_middle.trans (List.Perm.cons _ List.perm_middle)).symm

theorem front2 {Z A T : List Comp} : (Z ++ (A ++ T)).Perm (A ++ (Z ++ T)) := by
  rw [← List.append_assoc, ← List.append_assoc]
  exact List.perm_append_comm.append_right T

theorem front_in {Z A B T : List Comp} : (Z ++ (A ++ (B ++ T))).Perm (A ++ (B ++ (Z ++ T))) := by
  have e1 : Z ++ (A ++ (B ++ T)) = (Z ++ (A ++ B)) ++ T := by simp
  have e2 : A ++ (B ++ (Z ++ T)) = ((A ++ B) ++ Z) ++ T := by simp
  rw [e1, e2]
  exact List.perm_append_comm.append_right T

set_option maxHeartbeats 6400000 in
set_option maxRecDepth 1000000 in
theorem next_any {P D S : Nat} {fed : List UInt8} {told : Nat} {es : List En} {tg : Bool} {cs : List Comp} {fv ov wv : Value} {w : World} (h : Nx P D S fed told es tg cs fv ov wv w) (hs : es.length < 8388608) :
    Calls Tryd.prog 23 #[.pointer (some ⟨P, 0, none⟩), .pointer (some ⟨D, 0, none⟩), .pointer (some ⟨S, 0, none⟩)] w fun e w' => e = .returned (.bool true) ∧ ∃ told' es' ov' wv', (told < (fin fed).1.length → told' = told + 1) ∧ (told' = told ∨ told' = told + 1) ∧ es'.length ≤ es.length + 1 ∧ Nx P D S fed told' es' tg cs fv ov' wv' w' := by
  obtain ⟨hfed, hbk⟩ := h.fed
  obtain ⟨fa, fc, hfe⟩ := owns_form hfed
  subst hfe
  have c0 : w.cell? ⟨D, 0, none⟩ = some (.slice fa fed.length fc) := by rw [cell_at hbk]; rfl
  have hlen := h.len
  have hle := h.le
  have hfl := fin_rest_le fed
  obtain ⟨v, hv, hA⟩ := h.str
  have HV := hid hv
  have HF := hid (Found_c (Reads.of_owns hfed) hlen hA)
  have HSH := hid h.sh
  clear h hfed hbk hv hA
  go_enter Tryd.func23, Tryd.ntmps23
  go_wp2_with fail
  refine HF.out.mono ?_
  rintro e w1 ⟨v7, us, rfl, hul, hA1⟩
  -- the stream in front
  have S1 : Hid (Str P (fin fed).2.2 ((fin fed).1.drop told) (fin fed).2.1 ((slC v7 us :: rowsP us (fin fed).1) ++ (bsL D S (.slice fa fed.length fc) ov wv fed told es ++ cs)) w1) := ⟨v, HV.out, hA1.perm (by
    exact front2 (Z := slC v7 us :: rowsP us (fin fed).1))⟩
  obtain ⟨va, vc, hve⟩ := owns_form (hA1.1.2.1 : w1.ownsRow 0 26 1 v7 us.length us)
  subst hve
  have HUL := hid hul
  have hub : us.length ≤ 1048576 := by omega
  clear hA1 HF HV c0 hul
  by_cases hlt : told < (fin fed).1.length
  · obtain ⟨p, hp⟩ : ∃ p, (fin fed).1[told]? = some p := ⟨_, List.getElem?_eq_getElem hlt⟩
    have hpl := fin_payload (List.mem_of_getElem? hp)
    have HN := hid (Str.nextT (drop_cons hp ▸ S1.out) (by simp; omega))
    obtain ⟨u, hu⟩ : ∃ u, us[told]? = some u := ⟨_, List.getElem?_eq_getElem (by rw [HUL.out]; exact hlt)⟩
    have hlu : told < us.length := by rw [HUL.out]; exact hlt
    clear S1
    go_wp2_with fail
    refine HN.out.mono ?_
    rintro e w2 ⟨x, rfl, htx, hs2⟩
    have hx2 : w2.ownsRow 0 5 1 x p.length (cellsB p) := hs2.mem (c := rowC x p) (by simp)
    obtain ⟨xa, xc, hxe⟩ := owns_form hx2
    subst hxe
    have hu2 : w2.ownsRow 0 5 1 u p.length (cellsB p) := hs2.mem (c := rowC u p) (by
      refine List.mem_cons_of_mem _ (List.mem_append_left _ (List.mem_cons_of_mem _ (rowsP_mem hu hp))))
    obtain ⟨ua, uc, hue⟩ := owns_form hu2
    subst hue
    obtain ⟨gv, hgv, hcu⟩ := owns_cell26 (hs2.mem (c := slC (.slice va us.length vc) us) (by simp)) hu
    subst hgv
    have RX := hid (Reads.of_owns hx2)
    have RU := hid (Reads.of_owns hu2)
    have S2 := hid hs2
    have hbk2 : w2.heap[D]? = some (.cells #[.slice fa fed.length fc, .int .i64 (told : Int)] 28 (0, 0)) := hs2.mem (c := bookC D (.slice fa fed.length fc) told) (by simp [bsL])
    have d1 : w2.cell? ⟨D, 1, none⟩ = some (.int .i64 (told : Int)) := by rw [cell_at hbk2]; rfl
    have HTX := hid htx
    have HP := hid hp
    have htl : told ≤ 1048576 := by omega
    clear hx2 hu2 hs2 HN hbk2 htx hp hu
    go_wp2_with fail
    refine (same_q RX.out RU.out (by omega)).mono ?_
    rintro e w3 ⟨rfl, q3, hq3⟩
    have S3 := hid (show Str P (fin fed).2.2 ((fin fed).1.drop (told + 1)) (fin fed).2.1 (bookC D (.slice fa fed.length fc) told :: (rowC (.slice xa p.length xc) p :: (rowC (.slice fa fed.length fc) fed :: (shelfL S ov wv es ++ cs)))) w3 from by
      have h1 : Str P (fin fed).2.2 ((fin fed).1.drop (told + 1)) (fin fed).2.1 (rowC (.slice xa p.length xc) p :: (bsL D S (.slice fa fed.length fc) ov wv fed told es ++ cs)) w2 := by
        have h0 := S2.out.rest (ds := (slC (.slice (some ⟨gv, 0, none⟩) us.length vc) us :: rowsP us (fin fed).1) ++ (rowC (.slice xa p.length xc) p :: (bsL D S (.slice fa fed.length fc) ov wv fed told es ++ cs))) List.perm_middle.symm
        exact h0.drops
      exact hq3 ▸ (h1.rest (List.Perm.swap _ _ _)).drewN q3)
    have hbk3 : w3.heap[D]? = some (.cells #[.slice fa fed.length fc, .int .i64 (told : Int)] 28 (0, 0)) := S3.out.mem (c := bookC D (.slice fa fed.length fc) told) (by simp)
    have d1 : w3.cell? ⟨D, 1, none⟩ = some (.int .i64 (told : Int)) := by rw [cell_at hbk3]; rfl
    have f1 : w3.frozen? ⟨D, 1, none⟩ = false := free_at hbk3 1
    have A4 : Hid (∃ v4, SvOk (fin fed).2.2 ((fin fed).1.drop (told + 1)) v4 ∧ All (boxC S ov wv :: slC ov (es.map En.a) :: slC wv (es.map En.m) :: rowC (.slice xa p.length xc) p :: (strC P (fin fed).2.2 ((fin fed).1.drop (told + 1)) (fin fed).2.1 v4 ++ ([bookC D (.slice fa fed.length fc) (told + 1), rowC (.slice fa fed.length fc) fed] ++ (rows es ++ cs)))) (w3.setCell ⟨D, 1, none⟩ (.int .i64 ((told : Int) + 1)))) := by
      obtain ⟨v4, hv4, hA4⟩ := S3.out
      refine ⟨v4, hv4, ?_⟩
      have h1 := (hA4.perm List.perm_middle).book_set1 (told + 1)
      rw [show (((told + 1 : Nat)) : Int) = (told : Int) + 1 by omega] at h1
      refine h1.perm ?_
      generalize strC P _ _ _ v4 = A
      have e1 : (bookC D (.slice fa fed.length fc) (told + 1) :: (A ++ (rowC (.slice xa p.length xc) p :: (rowC (.slice fa fed.length fc) fed :: (shelfL S ov wv es ++ cs))))) = [bookC D (.slice fa fed.length fc) (told + 1)] ++ (A ++ ([rowC (.slice xa p.length xc) p, rowC (.slice fa fed.length fc) fed] ++ ([boxC S ov wv, slC ov (es.map En.a), slC wv (es.map En.m)] ++ (rows es ++ cs)))) := by simp [shelfL]
      have e2 : (boxC S ov wv :: slC ov (es.map En.a) :: slC wv (es.map En.m) :: rowC (.slice xa p.length xc) p :: (A ++ ([bookC D (.slice fa fed.length fc) (told + 1), rowC (.slice fa fed.length fc) fed] ++ (rows es ++ cs)))) = ([boxC S ov wv, slC ov (es.map En.a), slC wv (es.map En.m)] ++ [rowC (.slice xa p.length xc) p]) ++ (A ++ ([bookC D (.slice fa fed.length fc) (told + 1), rowC (.slice fa fed.length fc) fed] ++ (rows es ++ cs))) := by simp
      rw [e1, e2]
      generalize rows es ++ cs = T
      have p1 : ([bookC D (.slice fa fed.length fc) (told + 1)] ++ (A ++ ([rowC (.slice xa p.length xc) p, rowC (.slice fa fed.length fc) fed] ++ ([boxC S ov wv, slC ov (es.map En.a), slC wv (es.map En.m)] ++ T)))).Perm (A ++ ([rowC (.slice xa p.length xc) p] ++ ([bookC D (.slice fa fed.length fc) (told + 1)] ++ ([rowC (.slice fa fed.length fc) fed] ++ ([boxC S ov wv, slC ov (es.map En.a), slC wv (es.map En.m)] ++ T))))) := front2.trans (List.Perm.append_left A (List.Perm.swap _ _ _))
      have p2 : (([boxC S ov wv, slC ov (es.map En.a), slC wv (es.map En.m)] ++ [rowC (.slice xa p.length xc) p]) ++ (A ++ ([bookC D (.slice fa fed.length fc) (told + 1), rowC (.slice fa fed.length fc) fed] ++ T))).Perm (A ++ ([bookC D (.slice fa fed.length fc) (told + 1), rowC (.slice fa fed.length fc) fed] ++ (([boxC S ov wv, slC ov (es.map En.a), slC wv (es.map En.m)] ++ [rowC (.slice xa p.length xc) p]) ++ T))) := front_in
      refine p1.trans (List.Perm.trans (List.Perm.append_left A ?_) p2.symm)
      generalize bookC D (.slice fa fed.length fc) (told + 1) = c1
      generalize rowC (.slice fa fed.length fc) fed = c2
      generalize rowC (.slice xa p.length xc) p = c3
      generalize boxC S ov wv = d1
      generalize slC ov _ = d2
      generalize slC wv _ = d3
      show (c3 :: c1 :: c2 :: d1 :: d2 :: d3 :: T).Perm (c1 :: c2 :: d1 :: d2 :: d3 :: c3 :: T)
      exact (List.perm_middle (a := c3) (l₁ := [c1, c2, d1, d2, d3]) (l₂ := T)).symm
    have HMS := hid (HSH.out.small)
    clear hq3 S2 RX RU hcu hbk3 S3
    go_wp2_with fail
    refine (keep_any A4.out.choose_spec.2 (by omega) (by simp; omega) (by simp; omega)).mono ?_
    rintro e w5 ⟨rfl, ov5, wv5, m5, hA5⟩
    have N5 : Hid (Nx P D S fed (told + 1) (es ++ [⟨.slice xa p.length xc, m5, p, p⟩]) tg cs (.slice fa fed.length fc) ov5 wv5 w5) := by
      refine ⟨⟨A4.out.choose, A4.out.choose_spec.1, ?_⟩, by omega, hlen, ?_, ?_, by simp; omega⟩
      · have h1 := hA5
        generalize A4.out.choose = v4 at h1 ⊢
        have e1 : (boxC S ov5 wv5 :: slC ov5 (es.map En.a ++ [.slice xa p.length xc]) :: slC wv5 (es.map En.m ++ [m5]) :: rowC (.slice xa p.length xc) p :: rowC m5 p :: (strC P (fin fed).2.2 ((fin fed).1.drop (told + 1)) (fin fed).2.1 v4 ++ ([bookC D (.slice fa fed.length fc) (told + 1), rowC (.slice fa fed.length fc) fed] ++ (rows es ++ cs)))) = [boxC S ov5 wv5, slC ov5 (es.map En.a ++ [.slice xa p.length xc]), slC wv5 (es.map En.m ++ [m5]), rowC (.slice xa p.length xc) p, rowC m5 p] ++ (strC P (fin fed).2.2 ((fin fed).1.drop (told + 1)) (fin fed).2.1 v4 ++ ([bookC D (.slice fa fed.length fc) (told + 1), rowC (.slice fa fed.length fc) fed] ++ (rows es ++ cs))) := by simp
        rw [e1] at h1
        have h2 := h1.perm front_in
        refine h2.perm (List.Perm.append_left _ ?_)
        show (bookC D (.slice fa fed.length fc) (told + 1) :: rowC (.slice fa fed.length fc) fed :: ([boxC S ov5 wv5, slC ov5 (es.map En.a ++ [.slice xa p.length xc]), slC wv5 (es.map En.m ++ [m5]), rowC (.slice xa p.length xc) p, rowC m5 p] ++ (rows es ++ cs))).Perm (bookC D (.slice fa fed.length fc) (told + 1) :: rowC (.slice fa fed.length fc) fed :: (shelfL S ov5 wv5 (es ++ [(⟨.slice xa p.length xc, m5, p, p⟩ : En)]) ++ cs))
        refine List.Perm.cons _ (List.Perm.cons _ ?_)
        have e : shelfL S ov5 wv5 (es ++ [(⟨.slice xa p.length xc, m5, p, p⟩ : En)]) ++ cs = boxC S ov5 wv5 :: slC ov5 (es.map En.a ++ [.slice xa p.length xc]) :: slC wv5 (es.map En.m ++ [m5]) :: (rows es ++ (rowC (.slice xa p.length xc) p :: rowC m5 p :: cs)) := by simp [shelfL, rows]
        rw [e]
        refine List.Perm.cons _ (List.Perm.cons _ (List.Perm.cons _ ?_))
        show (rowC (.slice xa p.length xc) p :: rowC m5 p :: (rows es ++ cs)).Perm _
        exact (List.perm_middle.trans (List.Perm.cons _ List.perm_middle)).symm
      · intro e9 he9
        rcases List.mem_append.1 he9 with he9 | he9
        · exact HSH.out.ok e9 he9
        · simp at he9; subst he9; exact ⟨rfl, by simp only []; omega⟩
      · intro htg e9 he9
        rcases List.mem_append.1 he9 with he9 | he9
        · exact HSH.out.tight htg e9 he9
        · simp at he9
          subst he9
          obtain ⟨ao9, n9, hv9⟩ := HTX.out
          simp only [Value.slice.injEq] at hv9
          exact ⟨xa, p.length, by simp only []; rw [show xc = p.length by omega], by omega⟩
    clear hA5 A4
    go_wp2
    go_ret
    exact ⟨rfl, told + 1, _, _, _, fun _ => rfl, Or.inr rfl, by simp, N5.out⟩
  · have S1e := hid (show Str P (fin fed).2.2 [] (fin fed).2.1 _ w1 from by have := S1.out; rw [List.drop_eq_nil_of_le (by omega)] at this; exact this)
    have hlu : ¬ told < us.length := by rw [HUL.out]; exact hlt
    have hbk2 : w1.heap[D]? = some (.cells #[.slice fa fed.length fc, .int .i64 (told : Int)] 28 (0, 0)) := S1.out.mem (c := bookC D (.slice fa fed.length fc) told) (by simp [bsL])
    have htl : told ≤ 1048576 := by omega
    go_wp2_with fail
    refine S1e.out.empty.mono ?_
    rintro e w2 ⟨rfl, q2, hq2⟩
    have N2 := hid (show Nx P D S fed told es tg cs (.slice fa fed.length fc) ov wv w2 from ⟨hq2 ▸ S1.out.drops.drewN q2, hle, hlen, HSH.out⟩)
    have d1 : w2.cell? ⟨D, 1, none⟩ = some (.int .i64 (told : Int)) := by rw [hq2]; exact (by rw [cell_at hbk2]; rfl : w1.cell? ⟨D, 1, none⟩ = some (.int .i64 (told : Int)))
    clear hq2 S1 S1e hbk2
    go_wp2
    go_ret
    exact ⟨rfl, told, es, ov, wv, fun h => absurd h hlt, Or.inl rfl, by omega, N2.out⟩
end Go.Proofs.YthnccpbgccmapabDoor

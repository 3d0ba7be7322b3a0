import Derived.Test.YtkcepkehgkkkbabDoorDel
namespace Go.Proofs.YtkcepkehgkkkbabDoor
open Go.RowKit
open Go.Maps (Keyed)
set_option linter.unusedVariables false

theorem del_at {P : Nat} {qs : List Qv} {i : Nat} {q : Qv} {v : Value} {items : List ByteArray} {cs : List Comp} {w : World} {j : Nat} (h : All (ownC 9 v (txtV items) :: cs) w) (hm : blkC P (flat qs) 56 ∈ cs) (hq : qs[i]? = some q) (h0 : 0 < j) (hj : j ≤ items.length) :
    Calls Tryd.prog 59 #[v, .int .i64 0, .int .i64 (j : Int)] w fun e w' => ∃ so sc, e = .returned (.slice so (items.length - j) sc) ∧ Hid (All (ownC 9 (.slice so (items.length - j) sc) (txtV (items.drop j)) :: cs) w') ∧ w'.cell? ⟨P, i * 4 + 2, none⟩ = some q.iv ∧ w'.cell? ⟨P, i * 4 + 1, none⟩ = some (.int .i64 q.first) ∧ w'.frozen? ⟨P, i * 4 + 2, none⟩ = false ∧ w'.frozen? ⟨P, i * 4 + 1, none⟩ = false ∧ w'.cell? ⟨P, i * 4 + 3, none⟩ = some q.gv :=
  (del_own h h0 hj).mono fun e w' ⟨so, sc, h1, h2⟩ => ⟨so, sc, h1, h2, h2.q2 (List.mem_cons_of_mem _ hm) hq, h2.q1 (List.mem_cons_of_mem _ hm) hq, h2.free4 (qs := qs) (List.mem_cons_of_mem _ hm) _, h2.free4 (qs := qs) (List.mem_cons_of_mem _ hm) _, h2.q3 (List.mem_cons_of_mem _ hm) hq⟩

theorem All.setFI {P : Nat} {qs : List Qv} {cs : List Comp} {w : World} (h : All (blkC P (flat qs) 56 :: cs) w) {i : Nat} {q : Qv} (hq : qs[i]? = some q) (iv : Value) (f : Int) :
    All (blkC P (flat (qs.set i ⟨q.nm, f, iv, q.gv⟩)) 56 :: cs) ((w.setCell ⟨P, i * 4 + 2, none⟩ iv).setCell ⟨P, i * 4 + 1, none⟩ (.int .i64 f)) := by
  have hi : i < qs.length := (List.getElem?_eq_some_iff.1 hq).1
  have h0 := h.setBlk (i * 4 + 2) iv
  have e0 := flat_set (v := iv) (j := 2) (q' := ⟨q.nm, q.first, iv, q.gv⟩) hq (by omega) rfl
  rw [e0] at h0
  have q1 : (qs.set i ⟨q.nm, q.first, iv, q.gv⟩)[i]? = some ⟨q.nm, q.first, iv, q.gv⟩ := by simp [hi]
  have h1 := h0.setBlk (i * 4 + 1) (.int .i64 f)
  rw [flat_set (v := .int .i64 f) (j := 1) (q' := ⟨q.nm, f, iv, q.gv⟩) q1 (by omega) rfl, List.set_set] at h1
  exact h1

set_option maxHeartbeats 6400000 in
set_option maxRecDepth 1000000 in
theorem trim_q {P i b n : Nat} {qs : List Qv} {nm0 : ByteArray} {first : Int} {iv : Value} {items : List ByteArray} {D : DataW Unit} {cs : List Comp} {w : World} (h : All (ownC 9 iv (txtV items) :: mapC b n D :: blkC P (flat qs) 56 :: cs) w) (hq : qs[i]? = some ⟨nm0, first, iv, .map (some b)⟩) (hn : n < 1152921504606846976) (hf0 : 0 ≤ first) (hf1 : first + items.length ≤ 1099511627776) {d : Nat} (hd0 : 0 < d) (hd : d ≤ items.length) {below : Int} (hb : below = first + d) :
    Calls Tryd.prog 52 #[.pointer (some ⟨P, i * 4, none⟩), .int .i64 below] w fun e w' => e = .returned (.tuple #[]) ∧ ∃ v' D', TrimR D below (fun _ => false) D' ∧ All (ownC 9 v' (txtV (items.drop d)) :: mapC b n D' :: blkC P (flat (qs.set i ⟨nm0, below, v', .map (some b)⟩)) 56 :: cs) w' := by
  have hi : i < qs.length := (List.getElem?_eq_some_iff.1 hq).1
  have HQ := hid hq
  have H := hid h.drew
  have C := hid (del_at (w := w.drew) h.drew (List.mem_cons_of_mem _ List.mem_cons_self) hq hd0 hd)
  obtain ⟨ao, c, eo⟩ := owns_form (h.1.2.1 : w.ownsRow 0 9 1 iv (txtV items).length (txtV items))
  rw [txtV_length] at eo
  subst eo
  have s1 : w.cell? ⟨P, i * 4 + 1, none⟩ = some (.int .i64 first) := h.q1 (List.mem_cons_of_mem _ mem2) hq
  have s2 : w.cell? ⟨P, i * 4 + 2, none⟩ = some (.slice ao items.length c) := h.q2 (List.mem_cons_of_mem _ mem2) hq
  have hw1 : IntKind.i64.wrap (below - first) = (d : Int) := by rw [hb]; simp [IntKind.wrap, IntKind.bits, IntKind.signed]; omega
  rw [← hw1] at C
  have HB := hid hb
  clear hb hw1
  clear h hq
  go_enter Tryd.func52, Tryd.ntmps52
  go_wp2_with fail
  go_region_law (go_simp; go_at_call 59; refine C.out.mono ?_; rintro e w3 ⟨so, sc, rfl, A3, t2, t1, f2, f1, t3⟩)
  all_goals (
    clear C H s1 s2
    have A4 := hid ((A3.out.perm (ds := blkC P (flat qs) 56 :: mapC b n D :: ownC 9 (.slice so (items.length - d) sc) (txtV (items.drop d)) :: cs) (List.Perm.trans (List.perm_middle (l₁ := [ownC 9 (.slice so (items.length - d) sc) (txtV (items.drop d)), mapC b n D])) (List.Perm.cons _ (List.Perm.swap _ _ _)))).setFI HQ.out (.slice so (items.length - d) sc) below).swap
    have HO : ((w3.setCell ⟨P, i * 4 + 2, none⟩ (.slice so (items.length - d) sc)).setCell ⟨P, i * 4 + 1, none⟩ (.int .i64 below)).ownsMap Tryd.prog 9 rE b n D := A4.1.2.1
    have A4 := hid A4
    clear A3
    go_wp2_with (first | (at_range; refine wpList_range_own _ rfl _ 51 rfl 9 3 lawS Tryd.und51 _ b n D rfl HO ?_; intro w0 hrg0 hg0 hs0) | go_in)
    have A0 := hid (A4.out.it_start hg0 hs0 hrg0)
    have T0 := hid (TrimR.start D below)
    clear A4 HO hrg0 hg0 hs0 t1 t2 t3 f1 f2
    have hszW : ((w3.setCell ⟨P, i * 4 + 2, none⟩ (.slice so (items.length - d) sc)).setCell ⟨P, i * 4 + 1, none⟩ (.int .i64 below)).heap.size = w3.heap.size := by simp [World.setCell]
    rw [hszW] at A0
    clear hszW
    generalize w3.heap.size = r at A0 ⊢
    (try go_frame)
    go_loopw [] (fun wr => ∃ (left : Lit → Bool) (cnt : Nat) (Dr : DataW Unit), Hid (TrimR D below left Dr) ∧ Hid (All (itC b r n Dr left cnt :: blkC P (flat (qs.set i ⟨nm0, below, .slice so (items.length - d) sc, .map (some b)⟩)) 56 :: ownC 9 (.slice so (items.length - d) sc) (txtV (items.drop d)) :: cs) wr)) (fun wr => wr.rangeLeft b r)
    case atStart => exact ⟨_, _, D, T0, A0⟩
    case round =>
      obtain ⟨left, cnt, Dr, TR, AR⟩ := hrel
      clear T0 A0
      have hrg : wr.ranges Tryd.prog 9 rE b r n Dr left cnt := AR.out.1.2.1
      have HRG := hid hrg
      go_wp2_with (at_next; refine wpList_next_ranges _ rfl _ rfl 9 lawS rE encStr (Value.int .i64) invK9 invV3 b r n _ _ _ rfl hrg ?_ ?_)
      · intro hc0 hl0
        have hle : left = fun _ => false := funext hl0
        subst hle
        clear hc0 hl0 hrg HRG
        go_wp2
        go_end0
        exact ⟨rfl, _, Dr, TR.out, (AR.out.it_end).perm ((List.perm_middle (a := ownC 9 (.slice so (items.length - d) sc) (txtV (items.drop d))) (l₁ := [mapC b n Dr, blkC P (flat (qs.set i ⟨nm0, below, .slice so (items.length - d) sc, .map (some b)⟩)) 56])))⟩
      · intro x c kl yd yp w1 cnt1 hkey hlk hv hat hrg1 hlt hg1 hs1 hen
        obtain ⟨x', ex, rfl, hxl⟩ := keyS_inv hkey
        obtain rfl : x = x' := strB_inj (by simpa [encStr] using ex)
        obtain ⟨c', ec, ey, hwc⟩ := plainElem_int_inv Tryd.underlying3 hv
        cases ec
        simp only [Prod.mk.injEq] at ey
        have hkl : WideAt.IsKeyLit (.string x) := lawS.key hkey
        have hhas : Maps.has Dr (.string x) = true := by rw [TR.out.has]; exact TR.out.lt _ hlk
        have hcv : c = leftD D (.string x) := by
          have h1 := TR.out.val _ (TR.out.lt _ hlk)
          rw [if_pos hlk] at h1
          rw [← h1]
          unfold leftD
          rw [hat, ey.1]
        have htd : Maps.Tidy Dr := hrg.owns.tidy lawS
        have A1 := hid (AR.out.it_turn (Or.inr rfl) hg1 hrg1)
        have c3 : w1.cell? ⟨P, i * 4 + 3, none⟩ = some (.map (some b)) := A1.out.q3 (q := ⟨nm0, below, .slice so (items.length - d) sc, .map (some b)⟩) mem2 (by simp [hi])
        have hmx : n < maxLen := by unfold maxLen; omega
        have HTD := hid htd
        have HKL := hid hkl
        have HLK := hid hlk
        have HCV := hid hcv
        have hwc' : -9223372036854775808 ≤ c ∧ c ≤ 9223372036854775807 := by simpa [Lit.wf, IntKind.min, IntKind.max, IntKind.signed, IntKind.bits] using hwc
        have T2 := hid (TR.out.next htd hkl hlk)
        rw [← hcv] at T2
        clear ex hs1 hg1 AR hrg hkl hat hv ey htd hlk hcv hwc
        have hwf : (Lit.int .i64 (max c below)).wf = true := WalkArith.wf_i64 (by have := HB.out; omega)
        go_wp2_with (at_mapUpdate; refine wpList_store_ranges _ rfl _ _ _ 51 rfl 9 3 lawS Tryd.und51 rE b r n Dr _ cnt1 rfl hrg1 hmx _ _ (.string x) rfl rfl hkey _ [] (plainElem_int Tryd.underlying3 hwf) hhas ?_; intro w2 hrg2 hg2)
        have A2 := hid (A1.out.it_turn (Or.inl rfl) hg2 hrg2)
        have M2 := hid (show w2.rangeLeft b r < wr.rangeLeft b r from by rw [hrg2.left_eq, HRG.out.left_eq]; exact hlt)
        clear hg2 hrg2 A1
        (try go_frame)
        refine ⟨?_, M2.out⟩
        first | exact ⟨_, _, _, T2, A2⟩ | ((repeat apply Exists.intro); exact ⟨⟨_, _, _, T2, A2⟩, rfl⟩))
end Go.Proofs.YtkcepkehgkkkbabDoor

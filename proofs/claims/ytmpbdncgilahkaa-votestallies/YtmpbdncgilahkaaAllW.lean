import Derived.Test.YtmpbdncgilahkaaAllB
namespace Go.Proofs.Ytmpbdncgilahkaa
open Go.RowKit Go.Shelf Go.Sort
attribute [local go_sem] Oper.semAt_some
set_option linter.unusedVariables false

theorem res26 {tmps : Array Value} {W : World} {b : Bool} {B : Nat} (ht : tmps.getD 4 undef = .pointer (some ⟨B, 0, none⟩)) (hc : W.cell? ⟨B, 0, none⟩ = some (.bool b)) : (results Try.f26 tmps).run Try.prog W = .ok (.bool b) W := by
  simp only [results, show Try.f26.results = #[.cell 4 4] from rfl]
  have ht2 : tmps[4]?.getD undef = .pointer (some ⟨B, 0, none⟩) := by rw [← ht]; simp
  go_simp

theorem all_end {w W : World} {t : Tg} {most : Int} {p c D D2 : Nat} {tmps : Array Value} (hA : AB w t most W p c) (hD : w.heap.size + 1 + 1 + 1 + 1 + 1 + 1 ≤ D) (hD2 : w.heap.size + 1 + 1 + 1 + 1 + 1 + 1 ≤ D2) (h1 : W.heap[D2]? = some (.deferred (some []))) (h2 : W.heap[D]? = some (.deferred (some []))) (ht : tmps.getD 4 undef = .pointer (some ⟨w.heap.size + 1 + 1, 0, none⟩) := by rfl) :
    ∃ v, (results Try.f26 tmps).run Try.prog (((W.setCell ⟨w.heap.size + 1 + 1, 0, none⟩ (.bool true)).putObj D2 (.deferred none)).putObj D (.deferred none)) = .ok v (((W.setCell ⟨w.heap.size + 1 + 1, 0, none⟩ (.bool true)).putObj D2 (.deferred none)).putObj D (.deferred none)) ∧ (Ending.returned v = Ending.returned (.bool true) ∧ Below w.heap.size w (((W.setCell ⟨w.heap.size + 1 + 1, 0, none⟩ (.bool true)).putObj D2 (.deferred none)).putObj D (.deferred none))) := by
  have hb := (hA.re.set (.bool true))
  have hb2 : Boxed (((W.setCell ⟨w.heap.size + 1 + 1, 0, none⟩ (.bool true)).putObj D2 (.deferred none)).putObj D (.deferred none)) (w.heap.size + 1 + 1) 4 (.bool true) := (World.putObj_heap_other (by omega)).trans ((World.putObj_heap_other (by omega)).trans hb)
  refine ⟨_, res26 ht hb2.cell, rfl, ?_⟩
  have B1 := hA.be.setCell (p := ⟨w.heap.size + 1 + 1, 0, none⟩) (by simp only; omega) (.bool true)
  have k1 : (W.setCell ⟨w.heap.size + 1 + 1, 0, none⟩ (.bool true)).heap[D2]? = some (.deferred (some [])) := (other_set W 0 _ (by omega)).trans h1
  have k2 : (W.setCell ⟨w.heap.size + 1 + 1, 0, none⟩ (.bool true)).heap[D]? = some (.deferred (some [])) := (other_set W 0 _ (by omega)).trans h2
  have B2 := B1.trans (belowK_b (w := w) (Nat.le_refl _) _ D2 _ (.deferred none) (by omega) k1 rfl rfl)
  by_cases e : D = D2
  · subst e
    exact B2.trans (belowK_b (w := w) (Nat.le_refl _) _ D _ (.deferred none) (by omega) (World.putObj_heap_same (by have := (Array.getElem?_eq_some_iff.1 k1).1; omega)) rfl rfl)
  · exact B2.trans (belowK_b (w := w) (Nat.le_refl _) _ D _ (.deferred none) (by omega) ((World.putObj_heap_other e).trans k2) rfl rfl)

set_option maxRecDepth 1000000 in
set_option maxHeartbeats 4000000 in
theorem all_any {w : World} {t : Tg} {most : Int} (h : Th w t) (hm : 1 ≤ most) (hm9 : most ≤ 9) : Calls Try.prog 26 #[.agg #[.pointer (some ⟨t.a, 0, none⟩), .pointer (some ⟨t.b, 0, none⟩), .pointer (some ⟨t.f.r, 0, none⟩)], .int .i64 most] w fun e w' => e = .returned (.bool true) ∧ Below w.heap.size w w' := by
  have H := hid h
  have n7 := h.rf.seven
  have n1 := h.rf.one
  have hlo := opt_len _ _ h.ls
  rw [h.rf.lsaid] at hlo
  have HLO := hid hlo
  have hS := said_wsOf h.ls
  clear h hlo
  refine (callsIn_wide (n := 3)).1 ?_
  refine callsIn_of_wp_marks Try.func26 rfl trivial ?_ rfl
  simp only [Try.ntmps26, List.size_toArray, List.length_cons, List.length_nil, Nat.reduceAdd, Nat.reduceSub, Array.replicate_succ, Array.replicate_zero, List.push_toArray, List.append_toArray, List.nil_append, List.cons_append]
  have hS := hid hS
  gi_wp2
  refine ⟨trivial, (callsIn_wide.2 (AllI t.a)).mono ?_⟩
  rintro e w' ⟨rfl, rfl⟩
  gi_wp2
  rename_i Q' K hK
  have rest : ∀ (D : Nat) (W : World) (p c : Nat), w.heap.size + 1 + 1 + 1 + 1 + 1 + 1 ≤ D → W.heap[D]? = some (.deferred (some [])) → AB w t most W p c → c = min (said 0 (wsOf t.f)).length most.toNat → K { tmps := #[.agg #[.pointer (some ⟨t.a, 0, none⟩), .pointer (some ⟨t.b, 0, none⟩), .pointer (some ⟨t.f.r, 0, none⟩)], .int .i64 most, .pointer (some ⟨w.heap.size, 0, none⟩), .pointer (some ⟨w.heap.size + 1, 0, none⟩), .pointer (some ⟨w.heap.size + 1 + 1, 0, none⟩), .pointer (some ⟨w.heap.size + 1 + 1 + 1, 0, none⟩), .pointer (some ⟨w.heap.size + 1 + 1 + 1 + 1, 0, none⟩), undef, undef, undef, undef, undef, undef, .pointer (some ⟨w.heap.size, 0, none⟩), .pointer (some ⟨t.a, 0, none⟩), .func (.func 60) #[] #[.pointer (some ⟨w.heap.size + 1 + 1 + 1 + 1 + 1, 0, none⟩)], undef, undef, undef, undef, undef, undef, undef, undef, undef, undef, undef, undef, undef, undef, undef, undef, undef, undef, undef, undef, undef, undef, undef, undef, undef, undef, undef, undef, undef, undef, undef, undef, undef, undef, undef, undef, undef, undef, undef, undef, undef, undef, undef, undef, undef, undef, undef, undef, undef, undef, undef, undef, undef, undef, undef, undef, undef, undef, undef, undef, undef, undef, undef, undef, undef, undef, undef, undef, undef, undef, undef, undef, undef, undef, undef, undef, undef, undef, undef, undef, undef, undef, undef, undef, undef, undef, undef, undef, undef, undef, undef, undef, undef, undef, undef, undef, undef, undef, undef, undef, undef, undef, undef, undef, undef, undef, undef, undef, undef, undef, undef, undef, undef, undef, undef, undef, undef, undef, undef, undef, undef, undef, undef, undef, undef, undef, undef, undef, undef, undef], defers := [{ target := .collected D, args := #[] }] } W := by
    intro D W p c hD hKD hA hc
    have hDW := (Array.getElem?_eq_some_iff.1 hKD).1
    have cw := hA.wh.cell
    have fw := hA.wh.frozen
    have c1 := hA.c1
    have A0 : AB w t most (W.setCell ⟨w.heap.size + 1 + 1 + 1, 0, none⟩ (.int .i64 0)) 0 c := hA.setW 0
    have A1 := A0.below (ba _ (.cells #[.int .i64 0] 3))
    have c1' := A1.c1
    have A0 := hid A0
    have A1 := hid A1
    have hA := hid hA
    have hKD := hid hKD
    apply hK
    gi_wp2
    refine ⟨trivial, (callsIn_wide.2 (AllS t.b)).mono ?_⟩
    rintro e w' ⟨rfl, rfl⟩
    gi_wp2
    rename_i Q2 K2 hK2
    have hszW : (W.setCell ⟨w.heap.size + 1 + 1 + 1, 0, none⟩ (.int .i64 0)).heap.size = W.heap.size := by simp [World.setCell]
    have rest2 : ∀ (D2 : Nat) (W2 : World) (p2 : Nat), W.heap.size + 1 + 1 ≤ D2 → W2.heap[D2]? = some (.deferred (some [])) → W2.heap[D]? = some (.deferred (some [])) → AB w t most W2 p2 c → Boxed W2 W.heap.size 3 (.int .i64 c) → K2 { tmps := #[.agg #[.pointer (some ⟨t.a, 0, none⟩), .pointer (some ⟨t.b, 0, none⟩), .pointer (some ⟨t.f.r, 0, none⟩)], .int .i64 most, .pointer (some ⟨w.heap.size, 0, none⟩), .pointer (some ⟨w.heap.size + 1, 0, none⟩), .pointer (some ⟨w.heap.size + 1 + 1, 0, none⟩), .pointer (some ⟨w.heap.size + 1 + 1 + 1, 0, none⟩), .pointer (some ⟨w.heap.size + 1 + 1 + 1 + 1, 0, none⟩), undef, undef, .pointer (some ⟨W.heap.size, 0, none⟩), undef, undef, undef, .pointer (some ⟨w.heap.size, 0, none⟩), .pointer (some ⟨t.a, 0, none⟩), .func (.func 60) #[] #[.pointer (some ⟨w.heap.size + 1 + 1 + 1 + 1 + 1, 0, none⟩)], undef, undef, undef, undef, undef, undef, undef, undef, undef, undef, undef, undef, undef, undef, undef, undef, undef, undef, undef, undef, undef, undef, undef, undef, undef, undef, undef, undef, undef, undef, undef, undef, undef, undef, undef, undef, undef, undef, undef, undef, undef, undef, undef, undef, undef, undef, undef, undef, undef, undef, undef, undef, undef, undef, undef, .pointer (some ⟨w.heap.size, 1, none⟩), .pointer (some ⟨t.b, 0, none⟩), .func (.func 61) #[] #[.pointer (some ⟨W.heap.size + 1, 0, none⟩)], undef, undef, undef, undef, undef, undef, undef, undef, undef, undef, undef, undef, undef, undef, undef, undef, undef, undef, undef, undef, undef, undef, undef, undef, undef, undef, undef, undef, undef, undef, undef, undef, undef, undef, undef, undef, undef, undef, undef, undef, undef, undef, undef, undef, undef, undef, undef, undef, undef, undef, undef, undef, undef, undef, undef, undef, undef, undef, undef, undef, undef, undef, undef, undef, undef, undef, undef, undef, undef, undef, undef, undef], defers := [{ target := .collected D2, args := #[] }, { target := .collected D, args := #[] }] } W2 := by
      intro D2 W2 p2 hD2 hKD2 hKDb hA2 hmore
      have R := hA2.rf H.out.rf
      have e1 := wsOf_len H.out.ls
      have k1 := hA2.c2
      have k2 := hA2.tl.cell
      have k3 := hmore.cell
      have k4 := hA2.mo.cell
      have k5 := hA2.re.cell
      have k6 := hA2.re.frozen
      have hA2 := hid hA2
      have hKD2 := hid hKD2
      have hKDb := hid hKDb
      have HR := hid R
      clear R hmore
      apply hK2
      clear hK2 hK
      gi_wp2
      refine ⟨trivial, (callsIn_wide.2 (RCount HR.out)).mono ?_⟩
      rintro e w' ⟨rfl, rfl⟩
      rw [e1] at hc
      have g0 : ((c : Int) == c) = true := by simp
      by_cases hcn : c = cnt t.f.spoke
      · have g1 : ((c : Int) == (cnt t.f.spoke : Int)) = true := by simp [hcn]
        have hc' := hid hc
        clear hc
        rw [← hcn]
        gi_wp2
        refine ⟨by simp, .inl ⟨_, _, rfl, run_takeDeferred ((other_set _ 0 _ (by omega)).trans hKD2.out), ?_⟩⟩
        refine ⟨by simp, .inl ⟨_, _, rfl, run_takeDeferred ((World.putObj_heap_other (by omega)).trans ((other_set _ 0 _ (by omega)).trans hKDb.out)), ?_⟩⟩
        exact all_end hA2.out (by omega) (by omega) hKD2.out hKDb.out
      · have g1 : ((c : Int) == (cnt t.f.spoke : Int)) = false := by simp; omega
        have g2 : ((c : Int) == most) = true := by simp; omega
        have hc' := hid hc
        clear hc
        gi_wp2
        refine ⟨by simp, .inl ⟨_, _, rfl, run_takeDeferred ((other_set _ 0 _ (by omega)).trans hKD2.out), ?_⟩⟩
        refine ⟨by simp, .inl ⟨_, _, rfl, run_takeDeferred ((World.putObj_heap_other (by omega)).trans ((other_set _ 0 _ (by omega)).trans hKDb.out)), ?_⟩⟩
        exact all_end hA2.out (by omega) (by omega) hKD2.out hKDb.out
    clear hK hK2
    have A2 := A1.out.below (ba _ (.cells #[.pointer (some ⟨t.b, 0, none⟩)] 39))
    have bM := (Boxed.new (W.setCell ⟨w.heap.size + 1 + 1 + 1, 0, none⟩ (.int .i64 0)) 3 (.int .i64 0)).alloc (.cells #[.pointer (some ⟨t.b, 0, none⟩)] 39)
    have bN := Boxed.new ((W.setCell ⟨w.heap.size + 1 + 1 + 1, 0, none⟩ (.int .i64 0)).alloc (.cells #[.int .i64 0] 3)) 39 (.pointer (some ⟨t.b, 0, none⟩))
    rw [hszW] at bM
    rw [World.size_alloc, hszW] at bN
    have dW : (((W.setCell ⟨w.heap.size + 1 + 1 + 1, 0, none⟩ (.int .i64 0)).alloc (.cells #[.int .i64 0] 3)).alloc (.cells #[.pointer (some ⟨t.b, 0, none⟩)] 39)).heap[D]? = some (.deferred (some [])) :=
      (Below.heap_alloc _ _ D (by rw [World.size_alloc, hszW]; omega)).trans ((Below.heap_alloc _ _ D (by rw [hszW]; exact hDW)).trans ((other_set W 0 _ (by omega)).trans hKD.out))
    generalize hw8 : (((W.setCell ⟨w.heap.size + 1 + 1 + 1, 0, none⟩ (.int .i64 0)).alloc (.cells #[.int .i64 0] 3)).alloc (.cells #[.pointer (some ⟨t.b, 0, none⟩)] 39)) = w8 at A2 bM bN dW ⊢
    have hsz8 : w8.heap.size = W.heap.size + 1 + 1 := by rw [← hw8]; simp [hszW]
    have HB0 := A2.be
    have REST2 := hid rest2
    have e2 := wsT_len H.out.ls
    have e1 := wsOf_len H.out.ls
    rw [e1] at hc
    have HC := hid hc
    have HE2 := hid e2
    clear hc e2
    clear hw8 rest2 c1' cw fw c1 A0 A1 hA e1 hszW
    refine wpIn_rangeFunc_ownG rfl (by omega) (gf := 61) (lb := #[.pointer (some ⟨W.heap.size + 1, 0, none⟩)]) rfl trivial (enters_of Try.func61 (by kernel_rfl) rfl)
      (stopsS (n := 3 - 1) (by omega) (by omega) bN.cell (H.out.tb.keep (HB0.block _ H.out.tb.lt))) (fun _ _ => trivial) (fun _ _ _ _ _ _ _ _ => trivial) (Below.refl _ _) (fun _ => rfl)
      (fun pre V => ∃ p : Nat, p ≤ t.f.n ∧ pre = said 0 ((optT t.f).take p) ∧ (pre.length : Int) < most ∧ AB w t most V p c ∧ Boxed V W.heap.size 3 (.int .i64 pre.length) ∧ V.heap[D]? = some (.deferred (some [])))
      (fun cd pre V => (cd = .ret ∧ ¬ pre <+: said 0 (wsT t.f)) ∨ (cd = .exit 4 ∧ ∃ p : Nat, (pre.length : Int) = most ∧ AB w t most V p c ∧ Boxed V W.heap.size 3 (.int .i64 pre.length) ∧ V.heap[D]? = some (.deferred (some []))))
      (fun s A C row hs hg hr => by
        obtain ⟨p, h1, h2, h3, h4, h5, h6⟩ := hs
        have hne : ∀ k, k < W.heap.size + 1 → some k ≠ row := fun k hk e => by have := (hr k e.symm).1; omega
        exact ⟨p, h1, h2, h3, h4.grown hg (fun r e => by have := (hr r e).1; omega), h5.kept hg (hne _ (by omega)), (hg.block D (Array.getElem?_eq_some_iff.1 h6).1 (hne D (by omega))).trans h6⟩)
      (fun cd s A C row hs hg hr => by
        rcases hs with hs | ⟨e, p, h1, h3, h5, h6⟩
        · exact .inl hs
        · have hne : ∀ k, k < W.heap.size + 1 → some k ≠ row := fun k hk e => by have := (hr k e.symm).1; omega
          exact .inr ⟨e, p, h1, h3.grown hg (fun r e => by have := (hr r e).1; omega), h5.kept hg (hne _ (by omega)), (hg.block D (Array.getElem?_eq_some_iff.1 h6).1 (hne D (by omega))).trans h6⟩)
      ⟨0, by omega, rfl, by simp; omega, A2, bM, dW⟩
      (fun x => { tmps := #[.agg #[.pointer (some ⟨t.a, 0, none⟩), .pointer (some ⟨t.b, 0, none⟩), .pointer (some ⟨t.f.r, 0, none⟩)], .int .i64 most, .pointer (some ⟨w.heap.size, 0, none⟩), .pointer (some ⟨w.heap.size + 1, 0, none⟩), .pointer (some ⟨w.heap.size + 1 + 1, 0, none⟩), .pointer (some ⟨w.heap.size + 1 + 1 + 1, 0, none⟩), .pointer (some ⟨w.heap.size + 1 + 1 + 1 + 1, 0, none⟩), undef, undef, .pointer (some ⟨W.heap.size, 0, none⟩), .int .i64 x.1, encS x.2, undef, .pointer (some ⟨w.heap.size, 0, none⟩), .pointer (some ⟨t.a, 0, none⟩), .func (.func 60) #[] #[.pointer (some ⟨w.heap.size + 1 + 1 + 1 + 1 + 1, 0, none⟩)], undef, undef, undef, undef, undef, undef, undef, undef, undef, undef, undef, undef, undef, undef, undef, undef, undef, undef, undef, undef, undef, undef, undef, undef, undef, undef, undef, undef, undef, undef, undef, undef, undef, undef, undef, undef, undef, undef, undef, undef, undef, undef, undef, undef, undef, undef, undef, undef, undef, undef, undef, undef, undef, undef, undef, .pointer (some ⟨w.heap.size, 1, none⟩), .pointer (some ⟨t.b, 0, none⟩), .func (.func 61) #[] #[.pointer (some ⟨W.heap.size + 1, 0, none⟩)], .int .i64 x.1, encS x.2, undef, undef, undef, undef, undef, undef, undef, undef, undef, undef, undef, undef, undef, undef, undef, undef, undef, undef, undef, undef, undef, undef, undef, undef, undef, undef, undef, undef, undef, undef, undef, undef, undef, undef, undef, undef, undef, undef, undef, undef, undef, undef, undef, undef, undef, undef, undef, undef, undef, undef, undef, undef, undef, undef, undef, undef, undef, undef, undef, undef, undef, undef, undef, undef, undef, undef, undef, undef, undef, undef], defers := [] }) ?assign ?body ?done ?stop
    case assign =>
      intro l x W K hK
      gi_wp2
      simpa [List.zip_toArray] using hK
    case done =>
      rintro D2 ys V hD2 rfl ⟨p, hp, hpre, hlen, hA, hM, hDb⟩ hKD2
      refine REST2.out D2 V p (by omega) hKD2 hDb hA ?_
      have e : c = (said 0 (wsT t.f)).length := by have := HC.out; have := HE2.out; omega
      rw [e]; exact hM
    case stop =>
      rintro D2 cd pre V hD2 hpre hIx hKD2
      rcases hIx with ⟨rfl, hne⟩ | ⟨rfl, p, hlen, hA, hM, hDb⟩
      · exact absurd hpre hne
      · have e : c = pre.length := by have := HC.out; have := HE2.out; have := hpre.length_le; omega
        have hr := REST2.out D2 V p (by omega) hKD2 hDb hA (by rw [e]; exact hM)
        exact wpIn_exit hr
    case body =>
      rintro l pre x V ⟨p, hp, hpre, hlen, hA, hM, hDb⟩ hlt
      have wf41 : Fence.wide.fn 41 = True := rfl
      have HW := hid (KeepsOthers.refl V)
      have HA := hid hA
      have HM := hid hM
      have HP := hid hpre
      have HDB := hid hDb
      clear A2 bM bN dW HB0 hA hM hpre hlt hDb
      gi_wp2
      gi_loopw [94] (fun _ wr => ∃ p' : Nat, p' ≤ t.f.n ∧ Hid (pre = said 0 ((optT t.f).take p')) ∧ Hid (AB w t most wr p' c) ∧ Hid (Boxed wr W.heap.size 3 (.int .i64 pre.length)) ∧ Hid (KeepsOthers V wr)) (fun _ wr => whoIn t.f.n (w.heap.size + 1 + 1 + 1) wr)
      case atStart => exact ⟨p, hp, HP, HA, HM, HW⟩
      case round =>
        clear HP HA HW HM
        obtain ⟨q, hq, HP, HA, HM, HW⟩ := hrel
        have R := HA.out.rf H.out.rf
        have cw := HA.out.wh.cell
        have ct := HA.out.c2
        have r0 := R.c0
        have r1 := R.c1
        have cr := HA.out.re.cell
        have fr := HA.out.re.frozen
        have wq : IntKind.i64.wrap (q : Int) = q := by rw [IntKind.wrap_i64]; omega
        by_cases hqn : q = t.f.n
        · have d1 : decide ((q : Int) < t.f.n) = false := decide_eq_false (by omega)
          have d2 : decide ((t.f.n : Int) ≤ q) = true := decide_eq_true (by omega)
          have d4 : decide (q < t.f.n) = false := decide_eq_false (by omega)
          have d5 : decide (t.f.n ≤ q) = true := decide_eq_true (by omega)
          have d3 : (t.f.n : Int) ≤ q := by omega
          have hno := hid (said_stop (ws := optT t.f) (p := q) (x := x) (by have := HLO.out; simp only [optT, List.length_map]; omega))
          clear R hqn
          gi_wp2
          refine quiet_round rfl (by kernel_rfl) (by kernel_rfl) (by kernel_rfl) ?_
          repeat (first | gi_big_quiet_step (fail) | quiet_step_in (fail))
          refine wpQuietIn_nil ?_
          intro _ hw'
          obtain ⟨nq, hw''⟩ := hw'
          subst hw''
          gi_wp2
          refine quiet_round rfl (by kernel_rfl) (by kernel_rfl) (by kernel_rfl) ?_
          repeat (first | gi_big_quiet_step (fail) | quiet_step_in (fail))
          refine wpQuietIn_nil ?_
          intro _ hw'
          obtain ⟨nq, hw''⟩ := hw'
          subst hw''
          gi_wp2
          refine ⟨((HW.out.trans (keeps_drewN _ _)).trans (KeepsOthers.setCell _ _ _)).from _, .inl ⟨rfl, ?_⟩⟩
          rw [said_wsT, HP.out]
          exact hno.out
        · have d1 : (q : Int) < t.f.n := by omega
          have d1' : decide ((q : Int) < t.f.n) = true := decide_eq_true d1
          have d4 : decide (q < t.f.n) = true := decide_eq_true (by omega)
          have d2 : decide ((t.f.n : Int) ≤ q) = false := decide_eq_false (by omega)
          have d5 : decide (t.f.n ≤ q) = false := decide_eq_false (by omega)
          obtain ⟨v, b, hv, hb, ho⟩ := opt_at H.out.rf.lsaid H.out.rf.lspoke (show q < t.f.n by omega)
          have cs := R.si hv
          have cp := R.pi hb
          have fw := HA.out.wh.frozen
          have c3 := HA.out.mo.cell
          have c4 := HM.out.cell
          have f4 := HM.out.frozen
          have HO := hid (optT_at ho)
          clear R hqn hv hb ho
          cases b with
          | false =>
            have e1 := said_take HO.out
            simp only [cond_false, said, List.append_nil] at e1
            have E1 := hid e1
            clear e1
            gi_wp2
            refine quiet_round rfl (by kernel_rfl) (by kernel_rfl) (by kernel_rfl) ?_
            repeat (first | gi_big_quiet_step (fail) | quiet_step_in (fail))
            refine wpQuietIn_nil ?_
            intro _ hw'
            obtain ⟨nq, hw''⟩ := hw'
            subst hw''
            gi_wp2
            go_roundw
            case rel => exact ⟨q + 1, by omega, by rw [E1.out]; exact HP, hid ((HA.out.drewN _).setW (q + 1)), hid ((other_set _ 0 _ (by omega)).trans HM.out), hid ((HW.out.trans (keeps_drewN _ _)).trans (KeepsOthers.setCell _ _ _))⟩
            case measure =>
              have A2 : AB w t most ((wr.drewN nq).setCell ⟨w.heap.size + 1 + 1 + 1, 0, none⟩ (.int .i64 ((q : Int) + 1))) (q + 1) c := (HA.out.drewN nq).setW (q + 1)
              rw [whoIn_eq A2.wh, whoIn_eq HA.out.wh]
              omega
          | true =>
            have e1 := said_take HO.out
            simp only [cond_true, said] at e1
            have E1 := hid e1
            clear e1
            obtain ⟨x1, x2⟩ := x
            have HN := hid (fun h => said_next (x := (x1, x2)) HO.out h)
            by_cases hx1 : x1 = q
            · subst hx1
              have g1 : ((q : Int) != q) = false := by simp
              gi_wp2
              refine quiet_round rfl (by kernel_rfl) (by kernel_rfl) (by kernel_rfl) ?_
              repeat (first | gi_big_quiet_step (fail) | quiet_step_in (fail))
              refine wpQuietIn_nil ?_
              intro _ hw'
              obtain ⟨nqA, hw''⟩ := hw'
              subst hw''
              have Az := HA.out.drewN nqA
              have Mz : Boxed (wr.drewN nqA) W.heap.size 3 (.int .i64 pre.length) := HM.out
              have Wz := HW.out.trans (keeps_drewN wr nqA)
              clear cw ct r0 r1 cr fr cs cp fw c3 c4 f4 HA HM HW
              gi_wp2
              generalize wr.drewN nqA = wz at Az Mz Wz ⊢
              have R := Az.rf H.out.rf
              obtain ⟨v', b', hv', hb', ho'⟩ := opt_at H.out.rf.lsaid H.out.rf.lspoke (show q < t.f.n by omega)
              have ev : txt v' = txt v := by
                have h1 := optT_at ho'
                rw [HO.out] at h1
                cases b' with
                | false => simp at h1
                | true => simpa using h1.symm
              have k1 := cell_regrown Az.wh.cell
              have k2 := cell_regrown Az.c2
              have k3 := cell_regrown R.c0
              have k4 := cell_regrown (R.si hv')
              have cT : ∀ d os, CallsIn Fence.wide (3 - 1 - 1 - 1) Try.prog 41 #[.int .i64 v'] (grow (redrawn wz d) os) fun e w'' => e = .returned (.string (txt v')) ∧ ∃ p : Regrown, w'' = grow (redrawn wz p.d) p.os := fun d os => CallsIn.regrown_of (callsIn_wide.2 (text_any v'))
              rw [ev] at cT
              have AZ := hid Az
              have MZ := hid Mz
              have WZ := hid Wz
              clear R hv' hb' ho' ev Az Mz Wz
              by_cases hx2 : x2.toList = (txt v).toList
              · obtain rfl := tl_inj hx2
                clear hx2
                refine quiet_round_below rfl (by kernel_rfl) (by kernel_rfl) (by kernel_rfl) ?_
                repeat (quiet_step_in (first | exact cT _ _ | exact ⟨fun _ => by omega, cT _ _⟩))
                refine wpQuietIn_nil ?_
                intro wg hw'
                obtain ⟨⟨dq, osq⟩, hw''⟩ := hw'
                have hBg := below_regrown wz dq osq
                rw [← hw''] at hBg
                clear hw''
                have Ag := AZ.out.below hBg
                have Mg : Boxed wg W.heap.size 3 (.int .i64 pre.length) := (hBg.block _ MZ.out.lt).trans MZ.out
                have Wg := WZ.out.trans (keeps_below hBg)
                have c1 := Ag.wh.cell
                have f1 := Ag.wh.frozen
                have c3 := Ag.mo.cell
                have c4 := Mg.cell
                have f4 := Mg.frozen
                have AG := hid Ag
                have MG := hid Mg
                have WG := hid Wg
                clear k1 k2 k3 k4 cT AZ MZ WZ Ag Mg Wg hBg
                have HX : Hid (pre ++ [((q : Int), txt v)] = said 0 ((optT t.f).take (q + 1))) := hid (by rw [E1.out, ← HP.out])
                have KK := hid ((KeepsOthers.setCell wg ⟨w.heap.size + 1 + 1 + 1, 0, none⟩ (.int .i64 ((q : Int) + 1))).trans (KeepsOthers.setCell _ ⟨W.heap.size, 0, none⟩ (.int .i64 ((pre.length : Int) + 1))))
                have A5 : Hid (AB w t most ((wg.setCell ⟨w.heap.size + 1 + 1 + 1, 0, none⟩ (.int .i64 ((q : Int) + 1))).setCell ⟨W.heap.size, 0, none⟩ (.int .i64 ((pre.length : Int) + 1))) (q + 1) c) := hid ((AG.out.setW (q + 1)).grown (grownBy_setCell' _ _ _) (fun r e => by cases e; omega))
                have M5 : Hid (Boxed ((wg.setCell ⟨w.heap.size + 1 + 1 + 1, 0, none⟩ (.int .i64 ((q : Int) + 1))).setCell ⟨W.heap.size, 0, none⟩ (.int .i64 ((pre.length : Int) + 1))) W.heap.size 3 (.int .i64 ((pre.length : Int) + 1))) := hid (Boxed.set _ (show Boxed (wg.setCell ⟨w.heap.size + 1 + 1 + 1, 0, none⟩ (.int .i64 ((q : Int) + 1))) W.heap.size 3 _ from (other_set _ 0 _ (by omega)).trans MG.out))
                have D5 : Hid (((wg.setCell ⟨w.heap.size + 1 + 1 + 1, 0, none⟩ (.int .i64 ((q : Int) + 1))).setCell ⟨W.heap.size, 0, none⟩ (.int .i64 ((pre.length : Int) + 1))).heap[D]? = some (.deferred (some []))) := hid (((KeepsOthers.trans WG.out KK.out).same D _ HDB.out rfl))
                by_cases hmo : (pre.length : Int) + 1 = most
                · have g3 : ((pre.length : Int) + 1 == most) = true := by simp [hmo]
                  gi_wp2
                  have A6 := A5.out
                  have M6 := M5.out
                  have D6 := D5.out
                  have K6 := KK.out
                  rw [hmo] at A6 M6 D6 K6
                  refine ⟨(WG.out.trans K6).from _, .inr ⟨rfl, by simp; omega, ⟨q + 1, A6⟩, ?_, D6⟩⟩
                  rw [List.length_append, show (((pre.length + [((q : Int), txt v)].length : Nat)) : Int) = most by simp; omega]
                  exact M6
                · have g3 : ((pre.length : Int) + 1 == most) = false := by simp [hmo]
                  gi_wp2
                  refine ⟨(WG.out.trans KK.out).from _, trivial, q + 1, by omega, HX.out, by simp; omega, A5.out, ?_, D5.out⟩
                  rw [List.length_append]; exact M5.out
              · have g2 : (x2.toList == (txt v).toList) = false := by simpa using hx2
                have g3 : (x2.toList != (txt v).toList) = true := by simpa using hx2
                have g4 : decide (x2.toList = (txt v).toList) = false := decide_eq_false hx2
                refine quiet_round_below rfl (by kernel_rfl) (by kernel_rfl) (by kernel_rfl) ?_
                repeat (quiet_step_in (first | exact cT _ _ | exact ⟨fun _ => by omega, cT _ _⟩))
                refine wpQuietIn_nil ?_
                intro wg hw'
                obtain ⟨⟨dq, osq⟩, hw''⟩ := hw'
                have hBg := below_regrown wz dq osq
                rw [← hw''] at hBg
                clear hw''
                have Ag := AZ.out.below hBg
                have Wg := WZ.out.trans (keeps_below hBg)
                have cr := Ag.re.cell
                have fr := Ag.re.frozen
                have WG := hid Wg
                clear k1 k2 k3 k4 cT AZ MZ WZ Ag Wg hBg
                gi_wp2
                refine ⟨(WG.out.trans (KeepsOthers.setCell _ _ _)).from _, .inl ⟨rfl, ?_⟩⟩
                rw [said_wsT, HP.out]
                intro h
                exact hx2 (by have := HN.out h; simp at this; rw [this])
            · have g1 : (x1 != (q : Int)) = true := by simp [hx1]
              gi_wp2
              refine quiet_round rfl (by kernel_rfl) (by kernel_rfl) (by kernel_rfl) ?_
              repeat (first | gi_big_quiet_step (fail) | quiet_step_in (fail))
              refine wpQuietIn_nil ?_
              intro _ hw'
              obtain ⟨nq, hw''⟩ := hw'
              subst hw''
              gi_wp2
              refine quiet_round rfl (by kernel_rfl) (by kernel_rfl) (by kernel_rfl) ?_
              repeat (first | gi_big_quiet_step (fail) | quiet_step_in (fail))
              refine wpQuietIn_nil ?_
              intro _ hw'
              obtain ⟨nq, hw''⟩ := hw'
              subst hw''
              gi_wp2
              refine ⟨((HW.out.trans (keeps_drewN _ _)).trans (KeepsOthers.setCell _ _ _)).from _, .inl ⟨rfl, ?_⟩⟩
              rw [said_wsT, HP.out]
              intro h; exact hx1 (by have := HN.out h; simp at this; exact this.1)
  clear hK
  have hB0 := (((((ba w (.cells #[.pointer (some ⟨t.a, 0, none⟩), .pointer (some ⟨t.b, 0, none⟩), .pointer (some ⟨t.f.r, 0, none⟩)] 42)).alloc (by simp) (.cells #[.int .i64 most] 3)).alloc (by simp; omega) (.cells #[.bool false] 4)).alloc (by simp; omega) (.cells #[.int .i64 0] 3)).alloc (by simp; omega) (.cells #[.int .i64 0] 3)).alloc (by simp; omega) (.cells #[.pointer (some ⟨t.a, 0, none⟩)] 38)
  have hAB : AB w t most ((((((w.alloc (.cells #[.pointer (some ⟨t.a, 0, none⟩), .pointer (some ⟨t.b, 0, none⟩), .pointer (some ⟨t.f.r, 0, none⟩)] 42)).alloc (.cells #[.int .i64 most] 3)).alloc (.cells #[.bool false] 4)).alloc (.cells #[.int .i64 0] 3)).alloc (.cells #[.int .i64 0] 3)).alloc (.cells #[.pointer (some ⟨t.a, 0, none⟩)] 38)) 0 0 := by
    refine ⟨?_, ?_, ?_, ?_, ?_, hB0⟩
    · have := heap_alloc_new w (.cells #[.pointer (some ⟨t.a, 0, none⟩), .pointer (some ⟨t.b, 0, none⟩), .pointer (some ⟨t.f.r, 0, none⟩)] 42)
      iterate 5 rw [Below.heap_alloc _ _ _ (by simp; try omega)]
      exact this
    · have := Boxed.new (w.alloc (.cells #[.pointer (some ⟨t.a, 0, none⟩), .pointer (some ⟨t.b, 0, none⟩), .pointer (some ⟨t.f.r, 0, none⟩)] 42)) 3 (.int .i64 most)
      simp only [World.size_alloc] at this
      exact (((this.alloc _).alloc _).alloc _).alloc _
    · have := Boxed.new ((w.alloc (.cells #[.pointer (some ⟨t.a, 0, none⟩), .pointer (some ⟨t.b, 0, none⟩), .pointer (some ⟨t.f.r, 0, none⟩)] 42)).alloc (.cells #[.int .i64 most] 3)) 4 (.bool false)
      simp only [World.size_alloc] at this
      exact ((this.alloc _).alloc _).alloc _
    · have := Boxed.new (((w.alloc (.cells #[.pointer (some ⟨t.a, 0, none⟩), .pointer (some ⟨t.b, 0, none⟩), .pointer (some ⟨t.f.r, 0, none⟩)] 42)).alloc (.cells #[.int .i64 most] 3)).alloc (.cells #[.bool false] 4)) 3 (.int .i64 0)
      simp only [World.size_alloc] at this
      exact (this.alloc _).alloc _
    · have := Boxed.new ((((w.alloc (.cells #[.pointer (some ⟨t.a, 0, none⟩), .pointer (some ⟨t.b, 0, none⟩), .pointer (some ⟨t.f.r, 0, none⟩)] 42)).alloc (.cells #[.int .i64 most] 3)).alloc (.cells #[.bool false] 4)).alloc (.cells #[.int .i64 0] 3)) 3 (.int .i64 0)
      simp only [World.size_alloc] at this
      exact this.alloc _
  have bN := Boxed.new (((((w.alloc (.cells #[.pointer (some ⟨t.a, 0, none⟩), .pointer (some ⟨t.b, 0, none⟩), .pointer (some ⟨t.f.r, 0, none⟩)] 42)).alloc (.cells #[.int .i64 most] 3)).alloc (.cells #[.bool false] 4)).alloc (.cells #[.int .i64 0] 3)).alloc (.cells #[.int .i64 0] 3)) 38 (.pointer (some ⟨t.a, 0, none⟩))
  simp only [World.size_alloc] at bN
  generalize hw6 : ((((((w.alloc (.cells #[.pointer (some ⟨t.a, 0, none⟩), .pointer (some ⟨t.b, 0, none⟩), .pointer (some ⟨t.f.r, 0, none⟩)] 42)).alloc (.cells #[.int .i64 most] 3)).alloc (.cells #[.bool false] 4)).alloc (.cells #[.int .i64 0] 3)).alloc (.cells #[.int .i64 0] 3)).alloc (.cells #[.pointer (some ⟨t.a, 0, none⟩)] 38)) = w6 at hAB hB0 bN ⊢
  have hsz : w6.heap.size = w.heap.size + 1 + 1 + 1 + 1 + 1 + 1 := by rw [← hw6]; simp
  have REST := hid rest
  clear hw6 rest
  refine wpIn_rangeFunc_ownG rfl (by omega) (gf := 60) (lb := #[.pointer (some ⟨w.heap.size + 1 + 1 + 1 + 1 + 1, 0, none⟩)]) rfl trivial (enters_of Try.func60 (by kernel_rfl) rfl)
    (stopsI (n := 3 - 1) (by omega) (by omega) bN.cell (H.out.ta.keep (hB0.block _ H.out.ta.lt))) (fun _ _ => trivial) (fun _ _ _ _ _ _ _ _ => trivial) (Below.refl _ _) (fun _ => rfl)
    (fun pre W => ∃ p : Nat, p ≤ t.f.n ∧ pre = said 0 ((opt t.f.said t.f.spoke).take p) ∧ (pre.length : Int) < most ∧ AB w t most W p pre.length)
    (fun c pre W => (c = .ret ∧ ¬ pre <+: said 0 (wsOf t.f)) ∨ (c = .exit 0 ∧ ∃ p : Nat, pre <+: said 0 (wsOf t.f) ∧ (pre.length : Int) = most ∧ AB w t most W p pre.length))
    (fun s A C row hs hg hr => by obtain ⟨p, h1, h2, h3, h4⟩ := hs; exact ⟨p, h1, h2, h3, h4.grown hg (fun r e => by have := (hr r e).1; omega)⟩)
    (fun c s A C row hs hg hr => by
      rcases hs with hs | ⟨e, p, h1, h2, h3⟩
      · exact .inl hs
      · exact .inr ⟨e, p, h1, h2, h3.grown hg (fun r e => by have := (hr r e).1; omega)⟩)
    ⟨0, by omega, rfl, by simp; omega, hAB⟩
    (fun x => { tmps := #[.agg #[.pointer (some ⟨t.a, 0, none⟩), .pointer (some ⟨t.b, 0, none⟩), .pointer (some ⟨t.f.r, 0, none⟩)], .int .i64 most, .pointer (some ⟨w.heap.size, 0, none⟩), .pointer (some ⟨w.heap.size + 1, 0, none⟩), .pointer (some ⟨w.heap.size + 1 + 1, 0, none⟩), .pointer (some ⟨w.heap.size + 1 + 1 + 1, 0, none⟩), .pointer (some ⟨w.heap.size + 1 + 1 + 1 + 1, 0, none⟩), .int .i64 x.1, encI x.2, undef, undef, undef, undef, .pointer (some ⟨w.heap.size, 0, none⟩), .pointer (some ⟨t.a, 0, none⟩), .func (.func 60) #[] #[.pointer (some ⟨w.heap.size + 1 + 1 + 1 + 1 + 1, 0, none⟩)], .int .i64 x.1, encI x.2, undef, undef, undef, undef, undef, undef, undef, undef, undef, undef, undef, undef, undef, undef, undef, undef, undef, undef, undef, undef, undef, undef, undef, undef, undef, undef, undef, undef, undef, undef, undef, undef, undef, undef, undef, undef, undef, undef, undef, undef, undef, undef, undef, undef, undef, undef, undef, undef, undef, undef, undef, undef, undef, undef, undef, undef, undef, undef, undef, undef, undef, undef, undef, undef, undef, undef, undef, undef, undef, undef, undef, undef, undef, undef, undef, undef, undef, undef, undef, undef, undef, undef, undef, undef, undef, undef, undef, undef, undef, undef, undef, undef, undef, undef, undef, undef, undef, undef, undef, undef, undef, undef, undef, undef, undef, undef, undef, undef, undef, undef, undef, undef, undef, undef, undef, undef, undef, undef, undef, undef, undef, undef, undef, undef, undef, undef, undef, undef], defers := [] }) ?assign ?body ?done ?stop
  case assign =>
    intro l x W K hK
    gi_wp2
    simpa [List.zip_toArray] using hK
  case body =>
    rintro l pre x W ⟨p, hp, hpre, hlen, hA⟩ hlt
    have HW := hid (KeepsOthers.refl W)
    have HA := hid hA
    have HP := hid hpre
    clear hAB hB0 bN hA hpre hlt
    gi_wp2
    gi_loopw [36] (fun _ wr => ∃ p' : Nat, p' ≤ t.f.n ∧ Hid (pre = said 0 ((opt t.f.said t.f.spoke).take p')) ∧ Hid (AB w t most wr p' pre.length) ∧ Hid (KeepsOthers W wr)) (fun _ wr => whoIn t.f.n (w.heap.size + 1 + 1 + 1) wr)
    case atStart => exact ⟨p, hp, HP, HA, HW⟩
    case round =>
      clear HP HA HW
      obtain ⟨q, hq, HP, HA, HW⟩ := hrel
      have R := HA.out.rf H.out.rf
      have cw := HA.out.wh.cell
      have ct := HA.out.c2
      have r0 := R.c0
      have r1 := R.c1
      have cr := HA.out.re.cell
      have fr := HA.out.re.frozen
      have wq : IntKind.i64.wrap (q : Int) = q := by rw [IntKind.wrap_i64]; omega
      by_cases hqn : q = t.f.n
      · have d1 : decide ((q : Int) < t.f.n) = false := decide_eq_false (by omega)
        have d2 : decide ((t.f.n : Int) ≤ q) = true := decide_eq_true (by omega)
        have d4 : decide (q < t.f.n) = false := decide_eq_false (by omega)
        have d5 : decide (t.f.n ≤ q) = true := decide_eq_true (by omega)
        have d3 : (t.f.n : Int) ≤ q := by omega
        have hno := hid (said_stop (ws := opt t.f.said t.f.spoke) (p := q) (x := x) (by have := HLO.out; omega))
        clear R hqn
        gi_wp2
        refine quiet_round rfl (by kernel_rfl) (by kernel_rfl) (by kernel_rfl) ?_
        repeat (first | gi_big_quiet_step (fail) | quiet_step_in (fail))
        refine wpQuietIn_nil ?_
        intro _ hw'
        obtain ⟨nq, hw''⟩ := hw'
        subst hw''
        gi_wp2
        refine quiet_round rfl (by kernel_rfl) (by kernel_rfl) (by kernel_rfl) ?_
        repeat (first | gi_big_quiet_step (fail) | quiet_step_in (fail))
        refine wpQuietIn_nil ?_
        intro _ hw'
        obtain ⟨nq, hw''⟩ := hw'
        subst hw''
        gi_wp2
        refine ⟨((HW.out.trans (keeps_drewN _ _)).trans (KeepsOthers.setCell _ _ _)).from _, .inl ⟨rfl, ?_⟩⟩
        rw [hS.out, HP.out]
        exact hno.out
      · have d1 : (q : Int) < t.f.n := by omega
        have d1' : decide ((q : Int) < t.f.n) = true := decide_eq_true d1
        have d4 : decide (q < t.f.n) = true := decide_eq_true (by omega)
        have d2 : decide ((t.f.n : Int) ≤ q) = false := decide_eq_false (by omega)
        have d5 : decide (t.f.n ≤ q) = false := decide_eq_false (by omega)
        obtain ⟨v, b, hv, hb, ho⟩ := opt_at H.out.rf.lsaid H.out.rf.lspoke (show q < t.f.n by omega)
        have cs := R.si hv
        have cp := R.pi hb
        have fw := HA.out.wh.frozen
        have ft := HA.out.tl.frozen
        have c4 := HA.out.tl.cell
        have c3 := HA.out.mo.cell
        have HO := hid ho
        clear R hqn hv hb ho
        cases b with
        | false =>
          have e1 := said_take HO.out
          simp only [cond_false, said, List.append_nil] at e1
          have E1 := hid e1
          clear e1
          gi_wp2
          refine quiet_round rfl (by kernel_rfl) (by kernel_rfl) (by kernel_rfl) ?_
          repeat (first | gi_big_quiet_step (fail) | quiet_step_in (fail))
          refine wpQuietIn_nil ?_
          intro _ hw'
          obtain ⟨nq, hw''⟩ := hw'
          subst hw''
          gi_wp2
          go_roundw
          case rel => exact ⟨q + 1, by omega, by rw [E1.out]; exact HP, hid ((HA.out.drewN _).setW (q + 1)), hid ((HW.out.trans (keeps_drewN _ _)).trans (KeepsOthers.setCell _ _ _))⟩
          case measure =>
            have A2 : AB w t most ((wr.drewN nq).setCell ⟨w.heap.size + 1 + 1 + 1, 0, none⟩ (.int .i64 ((q : Int) + 1))) (q + 1) pre.length := (HA.out.drewN nq).setW (q + 1)
            rw [whoIn_eq A2.wh, whoIn_eq HA.out.wh]
            omega
        | true =>
          have e1 := said_take HO.out
          simp only [cond_true, said] at e1
          have E1 := hid e1
          clear e1
          obtain ⟨x1, x2⟩ := x
          have HN := hid (fun h => said_next (x := (x1, x2)) HO.out h)
          by_cases hx1 : x1 = q
          · subst hx1
            have g1 : ((q : Int) != q) = false := by simp
            by_cases hx2 : x2 = v
            · subst hx2
              have g2 : (x2 != x2) = false := by simp
              by_cases hmo : (pre.length : Int) + 1 = most
              · have g3 : ((pre.length : Int) + 1 == most) = true := by simp [hmo]
                gi_wp2
                refine quiet_round rfl (by kernel_rfl) (by kernel_rfl) (by kernel_rfl) ?_
                repeat (first | gi_big_quiet_step (fail) | quiet_step_in (fail))
                refine wpQuietIn_nil ?_
                intro _ hw'
                obtain ⟨nqA, hw''⟩ := hw'
                subst hw''
                gi_wp2
                refine quiet_round rfl (by kernel_rfl) (by kernel_rfl) (by kernel_rfl) ?_
                repeat (first | gi_big_quiet_step (fail) | quiet_step_in (fail))
                refine wpQuietIn_nil ?_
                intro _ hw'
                obtain ⟨nq, hw''⟩ := hw'
                subst hw''
                gi_wp2
                have A3 := ((HA.out.drewN (nqA + nq)).setW (q + 1)).setT (pre.length + 1)
                rw [show (((pre.length + 1 : Nat)) : Int) = most by omega] at A3
                have HX : pre ++ [((q : Int), x2)] = said 0 ((opt t.f.said t.f.spoke).take (q + 1)) := by rw [E1.out, ← HP.out]
                refine ⟨((HW.out.trans (keeps_drewN _ _)).trans ((KeepsOthers.setCell _ _ _).trans (KeepsOthers.setCell _ _ _))).from _, .inr ⟨rfl, q + 1, ?_, by simp; omega, ?_⟩⟩
                · rw [HX, hS.out]; exact said_prefix _ _
                · rw [List.length_append]; exact A3
              · have g3 : ((pre.length : Int) + 1 == most) = false := by simp [hmo]
                gi_wp2
                refine quiet_round rfl (by kernel_rfl) (by kernel_rfl) (by kernel_rfl) ?_
                repeat (first | gi_big_quiet_step (fail) | quiet_step_in (fail))
                refine wpQuietIn_nil ?_
                intro _ hw'
                obtain ⟨nqA, hw''⟩ := hw'
                subst hw''
                gi_wp2
                refine quiet_round rfl (by kernel_rfl) (by kernel_rfl) (by kernel_rfl) ?_
                repeat (first | gi_big_quiet_step (fail) | quiet_step_in (fail))
                refine wpQuietIn_nil ?_
                intro _ hw'
                obtain ⟨nq, hw''⟩ := hw'
                subst hw''
                gi_wp2
                have A3 := ((HA.out.drewN (nqA + nq)).setW (q + 1)).setT (pre.length + 1)
                have HX : pre ++ [((q : Int), x2)] = said 0 ((opt t.f.said t.f.spoke).take (q + 1)) := by rw [E1.out, ← HP.out]
                refine ⟨((HW.out.trans (keeps_drewN _ _)).trans ((KeepsOthers.setCell _ _ _).trans (KeepsOthers.setCell _ _ _))).from _, trivial, q + 1, by omega, HX, by simp; omega, ?_⟩
                rw [List.length_append]; exact A3
            · have g2 : (x2 != v) = true := by simp [hx2]
              gi_wp2
              refine quiet_round rfl (by kernel_rfl) (by kernel_rfl) (by kernel_rfl) ?_
              repeat (first | gi_big_quiet_step (fail) | quiet_step_in (fail))
              refine wpQuietIn_nil ?_
              intro _ hw'
              obtain ⟨nq, hw''⟩ := hw'
              subst hw''
              gi_wp2
              refine quiet_round rfl (by kernel_rfl) (by kernel_rfl) (by kernel_rfl) ?_
              repeat (first | gi_big_quiet_step (fail) | quiet_step_in (fail))
              refine wpQuietIn_nil ?_
              intro _ hw'
              obtain ⟨nq, hw''⟩ := hw'
              subst hw''
              gi_wp2
              refine ⟨((HW.out.trans (keeps_drewN _ _)).trans (KeepsOthers.setCell _ _ _)).from _, .inl ⟨rfl, ?_⟩⟩
              rw [hS.out, HP.out]
              intro h; exact hx2 (by have := HN.out h; simp at this; exact this)
          · have g1 : (x1 != (q : Int)) = true := by simp [hx1]
            gi_wp2
            refine quiet_round rfl (by kernel_rfl) (by kernel_rfl) (by kernel_rfl) ?_
            repeat (first | gi_big_quiet_step (fail) | quiet_step_in (fail))
            refine wpQuietIn_nil ?_
            intro _ hw'
            obtain ⟨nq, hw''⟩ := hw'
            subst hw''
            gi_wp2
            refine quiet_round rfl (by kernel_rfl) (by kernel_rfl) (by kernel_rfl) ?_
            repeat (first | gi_big_quiet_step (fail) | quiet_step_in (fail))
            refine wpQuietIn_nil ?_
            intro _ hw'
            obtain ⟨nq, hw''⟩ := hw'
            subst hw''
            gi_wp2
            refine ⟨((HW.out.trans (keeps_drewN _ _)).trans (KeepsOthers.setCell _ _ _)).from _, .inl ⟨rfl, ?_⟩⟩
            rw [hS.out, HP.out]
            intro h; exact hx1 (by have := HN.out h; simp at this; exact this.1)
  case done =>
    rintro D ys W hD rfl ⟨p, hp, hpre, hlen, hA⟩ hKD
    refine REST.out D W p _ (by omega) hKD hA ?_
    have : 0 ≤ most := by omega
    omega
  case stop =>
    rintro D c pre W hD hpre hIx hKD
    rcases hIx with ⟨rfl, hne⟩ | ⟨rfl, p, _, hlen, hA⟩
    · exact absurd hpre hne
    · have := hpre.length_le
      have hr := REST.out D W p _ (by omega) hKD hA (by omega)
      exact wpIn_exit hr
end Go.Proofs.Ytmpbdncgilahkaa

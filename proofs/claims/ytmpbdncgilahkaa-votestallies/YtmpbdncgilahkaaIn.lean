import Derived.Test.YtmpbdncgilahkaaInB
namespace Go.Proofs.Ytmpbdncgilahkaa
open Go.RowKit Go.Shelf Go.Sort
attribute [local go_sem] Oper.semAt_some
set_option linter.unusedVariables false

theorem run_store_func (P : Program) (w : World) (a : Addr) (m : Mode) (f : Fn) (x y : Array Value) : (store a (.func f x y) m).run P w = stored P w a (.func f x y) m := run_store P w a _ m rfl
attribute [local go_sem] run_store_func

theorem res53 {tmps : Array Value} {W : World} {b : Bool} {B : Nat} (ht : tmps.getD 6 undef = .pointer (some ⟨B, 0, none⟩)) (hc : W.cell? ⟨B, 0, none⟩ = some (.bool b)) : (results Try.f53 tmps).run Try.prog W = .ok (.bool b) W := by
  simp only [results, show Try.f53.results = #[.cell 6 4] from rfl]
  have ht2 : tmps[6]?.getD undef = .pointer (some ⟨B, 0, none⟩) := by rw [← ht]; simp
  go_simp

theorem Fr.belowAt {F : List Nat} {w W1 W2 : World} (h : Fr F w W1) (hb : Below w.heap.size W1 W2) : Fr F w W2 :=
  ⟨hb.os.trans h.os, hb.tape.trans h.tape, hb.output.trans h.output, Nat.le_trans h.size hb.size, fun k hk hF => (hb.block k hk).trans (h.block k hk hF)⟩

theorem in_end {w W : World} {t : Tg} {sd : List Int} {sp : List Bool} {N D : Nat} {g : Rfs} {p c : Nat} {tmps : Array Value} (H : Th w t) (hA : All (partsP w t.a t.b t.f sd sp N g p c) W) (hD : w.heap.size + 1 < D) (h2 : W.heap[D]? = some (.deferred (some []))) (ht : tmps.getD 6 undef = .pointer (some ⟨w.heap.size + 1, 0, none⟩) := by rfl) :
    ∃ v, (results Try.f53 tmps).run Try.prog ((W.setCell ⟨w.heap.size + 1, 0, none⟩ (.bool true)).putObj D (.deferred none)) = .ok v ((W.setCell ⟨w.heap.size + 1, 0, none⟩ (.bool true)).putObj D (.deferred none)) ∧ (Ending.returned v = Ending.returned (.bool true) ∧ Kept w t ((W.setCell ⟨w.heap.size + 1, 0, none⟩ (.bool true)).putObj D (.deferred none))) := by
  have hb : Boxed W (w.heap.size + 1) 4 (.bool false) := hA.blk (mem_at 6 rfl)
  have hb2 : Boxed ((W.setCell ⟨w.heap.size + 1, 0, none⟩ (.bool true)).putObj D (.deferred none)) (w.heap.size + 1) 4 (.bool true) := (World.putObj_heap_other (by omega)).trans (hb.set (.bool true))
  have k2 : (W.setCell ⟨w.heap.size + 1, 0, none⟩ (.bool true)).heap[D]? = some (.deferred (some [])) := (other_set W 0 _ (by omega)).trans h2
  have B1 : Below w.heap.size W (W.setCell ⟨w.heap.size + 1, 0, none⟩ (.bool true)) := (Below.refl _ W).setCell (p := ⟨w.heap.size + 1, 0, none⟩) (by simp only; omega) _
  have B2 := B1.trans (belowK_b (w := w) (Nat.le_refl _) _ D _ (.deferred none) (by omega) k2 rfl rfl)
  refine ⟨_, res53 ht hb2.cell, rfl, t.f.now sd sp, ?_, rfl, rfl, rfl, rfl, (hA.oldAt (mem_at 10 rfl)).belowAt B2⟩
  exact (Pt.th (t := { t with f := t.f.now sd sp }) (hA.ptAt (mem_at 0 rfl))).keep (fun k hk => B2.block k (H.pt.lt k hk))

set_option maxRecDepth 1000000 in
set_option maxHeartbeats 4000000 in
theorem in_any {w : World} {t : Tg} {who v : Int} (h : Th w t) (hw1 : -9223372036854775808 ≤ who) (hw2 : who < 9223372036854775808) : Calls Try.prog 53 #[.agg #[.pointer (some ⟨t.a, 0, none⟩), .pointer (some ⟨t.b, 0, none⟩), .pointer (some ⟨t.f.r, 0, none⟩)], .int .i64 who, .int .i64 v] w fun e w' => e = .returned (.bool true) ∧ Kept w t w' := by
  have n7 := h.rf.seven
  have n1 := h.rf.one
  obtain ⟨k, hk, hkn⟩ : ∃ k : Nat, pk who t.f.n = k ∧ k < t.f.n := by
    have h1 := pk_nn (c := who) (n := t.f.n) (by omega)
    have h2 := pk_lt (c := who) (n := t.f.n) (by omega)
    exact ⟨(pk who t.f.n).toNat, by omega, by omega⟩
  have hA := All.five h
  have c0 := h.rf.c0
  have hr : t.f.r < w.heap.size := h.pt.lt _ (by simp)
  have hr1 : t.f.r < w.heap.size + 1 := by omega
  have hr2 : t.f.r < w.heap.size + 1 + 1 := by omega
  have hr3 : t.f.r < w.heap.size + 1 + 1 + 1 := by omega
  obtain ⟨y, hy⟩ : ∃ y, t.f.said[k]? = some y := ⟨_, List.getElem?_eq_getElem (by rw [h.rf.lsaid]; exact hkn)⟩
  obtain ⟨b, hb⟩ : ∃ b, t.f.spoke[k]? = some b := ⟨_, List.getElem?_eq_getElem (by rw [h.rf.lspoke]; exact hkn)⟩
  have HO := hid (wsOf_get hy hb)
  have HOT := hid (wsT_get hy hb)
  have hks : k < t.f.said.length := by rw [h.rf.lsaid]; exact hkn
  have HKS := hid hks
  have HLS := hid h.ls
  have HB := hid hb
  have HA := hid hA
  have H := hid h
  have HK := hid hk
  have W1 := hid hw1
  have W2 := hid hw2
  clear h hA hk hw1 hw2 hy hb hks
  refine (callsIn_wide (n := 9)).1 ?_
  refine callsIn_of_wp_marks Try.func53 rfl trivial ?_ rfl
  simp only [Try.ntmps53, List.size_toArray, List.length_cons, List.length_nil, Nat.reduceAdd, Nat.reduceSub, Array.replicate_succ, Array.replicate_zero, List.push_toArray, List.append_toArray, List.nil_append, List.cons_append]
  gi_wp2
  refine ⟨trivial, (callsIn_wide.2 (AllI t.a)).mono ?_⟩
  rintro e w' ⟨rfl, rfl⟩
  gi_wp2
  refine ⟨trivial, (callsIn_wide.2 (pick_any W1.out W2.out (by omega) (by omega))).mono ?_⟩
  rintro e w' ⟨rfl, rfl⟩
  rw [HK.out]
  gi_wp2
  refine ⟨trivial, (callsIn_wide.2 (PAddI (v := v) (HA.out.ptAt (.head _)) hkn HO.out)).mono ?_⟩
  rintro e w1 ⟨rfl, hP1, hf1⟩
  have A1 := HA.out.turnP hP1 hf1 rfl
  have HA := hid A1
  clear A1 hP1 hf1 c0 hr hr1 hr2 hr3
  have k1 := cell_regrown (HA.out.cellAt (j := 1) (.tail _ (.head _)) rfl)
  have cT : ∀ d os, CallsIn Fence.wide 8 Try.prog 41 #[.int .i64 v] (grow (redrawn w1 d) os) fun e w'' => e = .returned (.string (txt v)) ∧ ∃ p : Regrown, w'' = grow (redrawn w1 p.d) p.os := fun d os => CallsIn.regrown_of (callsIn_wide.2 (text_any v))
  have wfa : ∀ f, Fence.wide.fn f = True := fun _ => rfl
  gi_wp2
  refine last_in rfl rfl (by kernel_rfl) (by kernel_rfl) (by kernel_rfl) rfl ?_
  simp only [nopLast, nopOf, List.dropLast, List.getLast_cons_cons, List.getLast_singleton]
  repeat (quiet_step_in (first | exact cT _ _ | exact ⟨fun _ => by omega, cT _ _⟩))
  refine wpQuietIn_nil ?_
  intro w2 hB2
  have HA := hid (HA.out.later hB2)
  clear hB2 k1 cT wfa
  gi_wp2
  refine ⟨trivial, (callsIn_wide.2 (PAddS (v := txt v) (HA.out.ptAt (.head _)) hkn HOT.out)).mono ?_⟩
  rintro e w3 ⟨rfl, hP3, hf3⟩
  have HA := hid (HA.out.turnP hP3 hf3 rfl)
  clear hP3 hf3
  have k2 := HA.out.cellAt (j := 2) (.tail _ (.head _)) rfl
  gi_wp2
  refine ⟨trivial, (callsIn_wide.2 (PAddR (v := v) (HA.out.ptAt (.head _)) hkn HB.out)).mono ?_⟩
  rintro e w4 ⟨rfl, hP4, hf4⟩
  rw [wsOf_add HLS.out HKS.out, wsT_add HLS.out HKS.out] at hP4
  have HA := hid (HA.out.turnP hP4 hf4 rfl)
  clear hP4 hf4 k2
  have k2 := HA.out.cellAt (j := 2) (.tail _ (.head _)) rfl
  gi_wp2
  refine ⟨trivial, (callsIn_wide.2 (RClone (HA.out.ptAt (.head _)).rf)).mono ?_⟩
  rintro e w5 ⟨g, rfl, hB5, hg, gn, gsa, gsp, g1, g2, g3⟩
  have HA := hid (HA.out.addRf hB5 hg g1 g2 g3)
  clear k2
  have k2 := HA.out.cellAt (j := 0) (.tail _ (.tail _ (.tail _ (.tail _ (.tail _ (.head _)))))) rfl
  have l0 : w.heap.size + 1 + 1 + 1 < w5.heap.size := World.block_lt_of_cell? _ _ (by rw [k2])
  have l1 : w.heap.size + 1 + 1 + 1 < w5.heap.size + 1 := by omega
  have l2 : w.heap.size + 1 + 1 + 1 < w5.heap.size + 1 + 1 := by omega
  have A8 := ((HA.out.addBlk [.pointer (some ⟨g.r, 0, none⟩)] 40).addBlk [.int .i64 0] 3).addBlk [.int .i64 0] 3
  simp only [World.size_alloc] at A8
  clear hB5 hg g1 g2 g3 HA
  have HA := hid A8
  clear A8
  gi_wp2
  generalize ((w5.alloc (.cells #[.pointer (some ⟨g.r, 0, none⟩)] 40)).alloc (.cells #[.int .i64 0] 3)).alloc (.cells #[.int .i64 0] 3) = w8 at HA ⊢
  generalize w5.heap.size = N at HA l0 ⊢
  have A8 : All (partsP w t.a t.b t.f (t.f.said.set k v) (t.f.spoke.set k true) N g 0 0) w8 := by
    refine HA.out.perm ?_
    have p1 : ∀ (a b c d x : Comp) (l : List Comp), (a :: b :: c :: d :: x :: l).Perm (x :: b :: a :: c :: d :: l) := by
      intro a b c d x l
      have e : [a, b, c, d, x].Perm [x, b, a, c, d] := ((List.perm_append_comm (l₁ := [a, b, c, d]) (l₂ := [x]))).trans (.cons _ (.swap _ _ _))
      exact List.Perm.append_right l e
    exact p1 _ _ _ _ _ _
  clear HA k2 l1 l2
  have GN := hid gn
  have GSA := hid gsa
  have GSP := hid gsp
  clear gn gsa gsp
  have hFP := parts_lt A8
  have hFB := fb_lt A8
  have c7 := A8.cellAt (j := 0) (mem_at 7 rfl) rfl
  have l7 : w.heap.size + 1 + 1 < w8.heap.size := World.block_lt_of_cell? _ _ (by rw [c7])
  have hlw := hid (A8.rfAt (mem_at 4 rfl))
  have hS : said 0 (wsOf (t.f.now (t.f.said.set k v) (t.f.spoke.set k true))) = said 0 (opt g.said g.spoke) := by
    rw [said_wsOf (f := t.f.now (t.f.said.set k v) (t.f.spoke.set k true)) (by have := HLS.out; simpa using this), GSA.out, GSP.out]
  have hold := (A8.oldAt (mem_at 10 rfl)).size
  have HFP := hid hFP
  have HFB := hid hFB
  have hS := hid hS
  have HA := hid A8
  have sd0 := hid (rfl : t.f.said.set k v = t.f.said.set k v)
  clear hFP hFB A8 sd0
  refine wpIn_rangeFunc_ownH rfl (by omega) (gf := 60) (lb := #[.pointer (some ⟨w.heap.size + 1 + 1, 0, none⟩)]) rfl trivial (enters_of Try.func60 (by kernel_rfl) rfl)
    (stopsI (n := 9 - 1) (by omega) l7 c7 (HA.out.ptAt (.head _)).ta) (fun _ _ => trivial) (fun _ _ _ _ _ _ _ _ => trivial) (Below.refl _ _) (fun _ => rfl)
    (fun pre W => ∃ (p : Nat) (sd : List Int) (sp : List Bool), p ≤ t.f.n ∧ pre = said 0 ((opt g.said g.spoke).take p) ∧ All (partsP w t.a t.b t.f sd sp N g p pre.length) W)
    (fun cd pre _ => cd = .ret ∧ ¬ pre <+: said 0 (opt g.said g.spoke))
    (fun s A C row hs hg hr => by
      obtain ⟨p, sd, sp, h1, h2, h3⟩ := hs
      exact ⟨p, sd, sp, h1, h2, h3.grown hg (fun r e => (hr r e).1) (HFP.out sd sp p s.length)⟩)
    (fun _ _ _ _ _ hs _ _ => hs)
    ⟨0, _, _, by omega, rfl, HA.out⟩
    (fun x a' _ => a' = { tmps := #[.agg #[.pointer (some ⟨t.a, 0, none⟩), .pointer (some ⟨t.b, 0, none⟩), .pointer (some ⟨t.f.r, 0, none⟩)], .int .i64 who, .int .i64 v, .pointer (some ⟨w.heap.size, 0, none⟩), undef, undef, .pointer (some ⟨w.heap.size + 1, 0, none⟩), .pointer (some ⟨w.heap.size + 1 + 1 + 1, 0, none⟩), .pointer (some ⟨w.heap.size + 1 + 1 + 1 + 1, 0, none⟩), .int .i64 k, .pointer (some ⟨N, 0, none⟩), .pointer (some ⟨N + 1, 0, none⟩), .pointer (some ⟨N + 1 + 1, 0, none⟩), .int .i64 x.1, encI x.2, undef, undef, undef, undef, undef, .pointer (some ⟨w.heap.size, 0, none⟩), .pointer (some ⟨t.a, 0, none⟩), .func (.func 60) #[] #[.pointer (some ⟨w.heap.size + 1 + 1, 0, none⟩)], .pointer (some ⟨w.heap.size, 2, none⟩), .pointer (some ⟨t.f.r, 0, none⟩), .pointer (some ⟨t.f.r, 0, none⟩), .pointer (some ⟨t.f.r, 0, none⟩), .slice (some ⟨t.f.s, 0, none⟩) t.f.n t.f.cs, .int .i64 t.f.n, .int .i64 who, .int .i64 t.f.n, .int .i64 k, .pointer (some ⟨w.heap.size, 0, none⟩), .pointer (some ⟨t.a, 0, none⟩), .int .i64 k, .int .i64 v, .tuple #[.bool (bif b then some y else none).isNone, .int .i64 0], .pointer (some ⟨w.heap.size, 1, none⟩), .pointer (some ⟨t.b, 0, none⟩), .int .i64 k, .int .i64 v, .string (txt v), .tuple #[.bool (bif b then some y else none).isNone, .int .i64 0], .pointer (some ⟨w.heap.size, 2, none⟩), .pointer (some ⟨t.f.r, 0, none⟩), .int .i64 k, .int .i64 v, .tuple #[.bool (!b), .int .i64 0], .pointer (some ⟨w.heap.size, 2, none⟩), .pointer (some ⟨t.f.r, 0, none⟩), .pointer (some ⟨g.r, 0, none⟩), .func (.func 60) #[] #[.pointer (some ⟨w.heap.size + 1 + 1, 0, none⟩)], .int .i64 x.1, encI x.2, undef, undef, undef, undef, undef, undef, undef, undef, undef, undef, undef, undef, undef, undef, undef, undef, undef, undef, undef, undef, undef, undef, undef, undef, undef, undef, undef, undef, undef, undef, undef, undef, undef, undef, undef, undef, undef, undef, undef, undef, undef, undef, undef, undef, undef, undef, undef, undef, undef, undef, undef, undef, undef, undef, undef, undef, undef, undef, undef, undef, undef, undef, undef, undef, undef, undef, undef, undef, undef, undef, undef, undef, undef, undef, undef, undef, undef, undef, undef, undef, undef, undef, undef, undef, undef, undef, undef, undef, undef, undef, undef, undef, undef, undef, undef, undef, undef, undef, undef, undef, undef, undef, undef, undef, undef, undef, undef], defers := [] }) (fun _ _ _ _ _ _ hs _ _ => hs) ?assign ?body ?done ?stop
  case assign =>
    intro l pre x W K hI hK
    gi_wp2
    exact hK _ _ (KeepsFrom.refl _ _) trivial hI (by simp)
  case body =>
    rintro l pre x a' W hl ⟨r, hr⟩ ⟨p, sd, sp, hp, hpre, hA⟩ rfl hlt
    dsimp only
    have HW := hid (Fr.refl (fbL w t.a t.b t.f N) W)
    have HA0 := HA
    have HA := hid hA
    have HP := hid hpre
    have HL := hid hl
    have HR := hid hr
    have hp7 : pre.length < 7 := by
      have h1 := said_len 0 (wsOf (t.f.now (t.f.said.set k v) (t.f.spoke.set k true)))
      have h2 := (HA0.out.ptAt (mem_at 0 rfl)).ta.len
      omega
    clear hA hpre hlt hl hr c7 l7
    gi_wp2
    gi_loopw [66] (fun _ wr => ∃ p' : Nat, p' ≤ t.f.n ∧ Hid (pre = said 0 ((opt g.said g.spoke).take p')) ∧ Hid (All (partsP w t.a t.b t.f sd sp N g p' pre.length) wr) ∧ Hid (Fr (fbL w t.a t.b t.f N) W wr)) (fun _ wr => atIn t.f.n (N + 1) wr)
    case atStart => exact ⟨p, hp, HP, HA, HW⟩
    case round =>
      clear HP HA HW
      obtain ⟨q, hq, HP, HA, HW⟩ := hrel
      have R := HA.out.rfAt (mem_at 4 rfl)
      have cw := HA.out.cellAt (j := 0) (mem_at 1 rfl) rfl
      have fw := HA.out.freeAt (mem_at 1 rfl) 0
      have cn := HA.out.cellAt (j := 0) (mem_at 9 rfl) rfl
      have cx := HA.out.cellAt (j := 0) (mem_at 3 rfl) rfl
      have r0 := R.c0
      have r1 := R.c1
      rw [GN.out] at r0 r1
      have cr := HA.out.cellAt (j := 0) (mem_at 6 rfl) rfl
      have fr := HA.out.freeAt (mem_at 6 rfl) 0
      have ca := HA.out.cellAt (j := 0) (mem_at 5 rfl) rfl
      have nB1 : w.heap.size ≠ N + 1 := by omega
      have nB2 : w.heap.size ≠ N + 1 + 1 := by omega
      have wq : IntKind.i64.wrap (q : Int) = q := by rw [IntKind.wrap_i64]; omega
      by_cases hqn : q = t.f.n
      · have d1 : decide ((q : Int) < t.f.n) = false := decide_eq_false (by omega)
        have d2 : decide ((t.f.n : Int) ≤ q) = true := decide_eq_true (by omega)
        have d4 : decide (q < t.f.n) = false := decide_eq_false (by omega)
        have d5 : decide (t.f.n ≤ q) = true := decide_eq_true (by omega)
        have d3 : (t.f.n : Int) ≤ q := by omega
        have hno := hid (said_stop (ws := opt g.said g.spoke) (p := q) (x := x) (by rw [opt_len _ _ (by rw [R.lsaid, R.lspoke]), R.lsaid, GN.out]; omega))
        clear R hqn
        gi_wp2
        refine quiet_round rfl (by kernel_rfl) (by kernel_rfl) (by kernel_rfl) ?_
        repeat (first | gi_big_quiet_step (fail) | quiet_step_in (fail))
        refine wpQuietIn_nil ?_
        intro _ hw'
        obtain ⟨nq1, hw''⟩ := hw'
        subst hw''
        gi_wp2
        refine quiet_round rfl (by kernel_rfl) (by kernel_rfl) (by kernel_rfl) ?_
        repeat (first | gi_big_quiet_step (fail) | quiet_step_in (fail))
        refine wpQuietIn_nil ?_
        intro _ hw'
        obtain ⟨nq2, hw''⟩ := hw'
        subst hw''
        gi_wp2
        refine ⟨((HW.out.drewN _).set _ _ _ (by simp)).keeps HFB.out, rfl, ?_⟩
        rw [HP.out]
        exact hno.out
      · have d1 : (q : Int) < t.f.n := by omega
        have d1' : decide ((q : Int) < t.f.n) = true := decide_eq_true d1
        have d4 : decide (q < t.f.n) = true := decide_eq_true (by omega)
        have d2 : decide ((t.f.n : Int) ≤ q) = false := decide_eq_false (by omega)
        have d5 : decide (t.f.n ≤ q) = false := decide_eq_false (by omega)
        obtain ⟨vq, bq, hv, hbq, ho⟩ := opt_at R.lsaid R.lspoke (show q < g.n by rw [GN.out]; omega)
        have cs := R.si hv
        have cp := R.pi hbq
        have ct := HA.out.cellAt (j := 0) (mem_at 2 rfl) rfl
        have ft := HA.out.freeAt (mem_at 2 rfl) 0
        have HO2 := hid ho
        clear R hqn hv hbq ho
        cases bq with
        | false =>
          have e1 := said_take HO2.out
          simp only [cond_false, said, List.append_nil] at e1
          have E1 := hid e1
          clear e1
          gi_wp2
          refine quiet_round rfl (by kernel_rfl) (by kernel_rfl) (by kernel_rfl) ?_
          repeat (first | gi_big_quiet_step (fail) | quiet_step_in (fail))
          refine wpQuietIn_nil ?_
          intro _ hw'
          obtain ⟨nq, hw''⟩ := hw'
          subst hw''
          gi_wp2
          go_roundw
          case rel => exact ⟨q + 1, by omega, by rw [E1.out]; exact HP, hid (((HA.out.drewN _).setIn (xs := [_]) 0 (.int .i64 ((q : Int) + 1)))), hid ((HW.out.drewN _).set _ _ _ (by simp))⟩
          case measure =>
            have A2 := ((HA.out.drewN nq).setIn (xs := [_]) 0 (.int .i64 ((q : Int) + 1))).cellAt (j := 0) (mem_at 1 rfl) rfl
            rw [atIn_eq (p := q + 1) A2, atIn_eq cw]
            omega
        | true =>
          have e1 := said_take HO2.out
          simp only [cond_true, said] at e1
          have E1 := hid e1
          clear e1
          obtain ⟨x1, x2⟩ := x
          have HN := hid (fun h => said_next (x := (x1, x2)) HO2.out h)
          by_cases hx1 : x1 = q
          · subst hx1
            have g1 : ((q : Int) != q) = false := by simp
            by_cases hx2 : x2 = vq
            · subst hx2
              have g2 : (x2 != x2) = false := by simp
              gi_wp2
              refine quiet_round rfl (by kernel_rfl) (by kernel_rfl) (by kernel_rfl) ?_
              repeat (first | gi_big_quiet_step (fail) | quiet_step_in (fail))
              refine wpQuietIn_nil ?_
              intro _ hw'
              obtain ⟨nqA, hw''⟩ := hw'
              subst hw''
              gi_wp2
              refine quiet_round rfl (by kernel_rfl) (by kernel_rfl) (by kernel_rfl) ?_
              repeat (first | gi_big_quiet_step (fail) | quiet_step_in (fail))
              refine wpQuietIn_nil ?_
              intro _ hw'
              obtain ⟨nqB, hw''⟩ := hw'
              subst hw''
              gi_wp2
              have A2 : All (partsP w t.a t.b t.f sd sp N g (q + 1) (pre.length + 1)) (((wr.drewN (nqA + nqB)).setCell ⟨N + 1, 0, none⟩ (.int .i64 ((q : Int) + 1))).setCell ⟨N + 1 + 1, 0, none⟩ (.int .i64 ((pre.length : Int) + 1))) := ((HA.out.drewN (nqA + nqB)).setIn (xs := [_]) 0 (.int .i64 ((q : Int) + 1))).setIn (xs := [_, _]) 0 (.int .i64 ((pre.length : Int) + 1))
              have W2 := ((HW.out.drewN (nqA + nqB)).set (N + 1) 0 (.int .i64 ((q : Int) + 1)) (by simp)).set (N + 1 + 1) 0 (.int .i64 ((pre.length : Int) + 1)) (by simp)
              have Q2 := hid (show pre ++ [((q : Int), x2)] = said 0 ((opt g.said g.spoke).take (q + 1)) by rw [E1.out, ← HP.out])
              generalize ((wr.drewN (nqA + nqB)).setCell ⟨N + 1, 0, none⟩ (.int .i64 ((q : Int) + 1))).setCell ⟨N + 1 + 1, 0, none⟩ (.int .i64 ((pre.length : Int) + 1)) = wa at A2 W2 ⊢
              have hqn : q < t.f.n := by omega
              have ls := (A2.ptAt (mem_at 0 rfl)).rf.lsaid
              have lp := (A2.ptAt (mem_at 0 rfl)).rf.lspoke
              simp only at ls lp
              obtain ⟨y3, hy3⟩ : ∃ y, sd[q]? = some y := ⟨_, List.getElem?_eq_getElem (by omega)⟩
              obtain ⟨b3, hb3⟩ : ∃ b, sp[q]? = some b := ⟨_, List.getElem?_eq_getElem (by omega)⟩
              have O3 := hid (wsOf_get (f := t.f.now sd sp) hy3 hb3)
              have T3 := hid (wsT_get (f := t.f.now sd sp) hy3 hb3)
              have B3 := hid hb3
              have LS := hid ls
              have LP := hid lp
              clear HA HW HP E1 HN HO2 g1 g2 cw fw cn cx r0 r1 cr fr wq d1 d1' d4 d2 d5 cs cp ct ft hy3 hb3 ls lp ca
              have HA := hid A2
              have HW := hid W2
              clear A2 W2
              refine ⟨trivial, (CallsIn.inRound l (callsIn_wide.2 (PDropI (HA.out.ptAt (mem_at 0 rfl)) hqn O3.out))).mono ?_⟩
              rintro e wb ⟨rfl, hPb, hfb⟩
              have HW := hid (HW.out.more hfb (blk_fb w t.a t.b t.f sd sp N))
              have HA := hid (HA.out.turnP hPb hfb rfl)
              clear hPb hfb
              have k1 := HA.out.cellAt (j := 1) (mem_at 5 rfl) rfl
              gi_wp2
              refine ⟨trivial, (CallsIn.inRound l (callsIn_wide.2 (PDropS (HA.out.ptAt (mem_at 0 rfl)) hqn T3.out))).mono ?_⟩
              rintro e wc ⟨rfl, hPc, hfc⟩
              have HW := hid (HW.out.more hfc (blk_fb w t.a t.b t.f sd sp N))
              have HA := hid (HA.out.turnP hPc hfc rfl)
              clear hPc hfc k1
              have k1 := HA.out.cellAt (j := 2) (mem_at 5 rfl) rfl
              gi_wp2
              refine ⟨trivial, (CallsIn.inRound l (callsIn_wide.2 (PDropR (HA.out.ptAt (mem_at 0 rfl)) hqn B3.out))).mono ?_⟩
              rintro e wd ⟨rfl, hPd, hfd⟩
              rw [wsOf_drop (f := t.f.now sd sp) (by have := LS.out; have := LP.out; simp only; omega) (by have := LS.out; simp only; omega), wsT_drop (f := t.f.now sd sp) (by have := LS.out; have := LP.out; simp only; omega) (by have := LS.out; simp only; omega)] at hPd
              have HW := hid (HW.out.more hfd (blk_fb w t.a t.b t.f sd sp N))
              have HA : Hid (All (partsP w t.a t.b t.f sd (sp.set q false) N g (q + 1) (pre.length + 1)) wd) := hid (HA.out.turnP hPd hfd rfl)
              have LP : Hid ((sp.set q false).length = t.f.n) := hid (by have := LP.out; simpa using this)
              generalize sp.set q false = sp4 at HA LP
              clear hPd hfd k1 O3 T3 B3
              have k0 := cell_regrown (HA.out.cellAt (j := 0) (mem_at 5 rfl) rfl)
              have kn := cell_regrown (HA.out.cellAt (j := 0) (mem_at 9 rfl) rfl)
              have kt := cell_regrown (HA.out.cellAt (j := 0) (mem_at 2 rfl) rfl)
              have wfa : ∀ f, Fence.wide.fn f = True := fun _ => rfl
              have n0 : t.f.n ≠ 0 := by omega
              have wq2 : IntKind.i64.wrap ((q : Int) + 2) = q + 2 := by rw [IntKind.wrap_i64]; omega
              obtain ⟨m, hm, hmn⟩ : ∃ m : Nat, ((q : Int) + 2).tmod t.f.n = m ∧ m < t.f.n := ⟨(q + 2) % t.f.n, by rw [Int.tmod_eq_emod_of_nonneg (by omega), Int.natCast_emod]; rfl, Nat.mod_lt _ (by omega)⟩
              gi_wp2
              refine last_round rfl rfl (by kernel_rfl) (by kernel_rfl) (by kernel_rfl) (by kernel_rfl) rfl ?_
              simp only [nopLast, nopOf, List.dropLast, List.getLast_cons_cons, List.getLast_singleton]
              repeat (quiet_step_in (fail))
              refine wpQuietIn_nil ?_
              intro we hBe
              have HA := hid (HA.out.later hBe)
              have HW := hid (HW.out.later hBe)
              clear hBe k0 kn kt wfa
              gi_wp2
              obtain ⟨y4, hy4⟩ : ∃ y, sd[m]? = some y := ⟨_, List.getElem?_eq_getElem (by have := LS.out; omega)⟩
              obtain ⟨b4, hb4⟩ : ∃ b, sp4[m]? = some b := ⟨_, List.getElem?_eq_getElem (by have := LP.out; omega)⟩
              have O3 := hid (wsOf_get (f := t.f.now sd sp4) hy4 hb4)
              have T3 := hid (wsT_get (f := t.f.now sd sp4) hy4 hb4)
              have B3 := hid hb4
              clear hy4 hb4
              refine ⟨trivial, (CallsIn.inRound l (callsIn_wide.2 (PAddI (v := (pre.length : Int) + 1) (HA.out.ptAt (mem_at 0 rfl)) hmn O3.out))).mono ?_⟩
              rintro e wf ⟨rfl, hPf, hff⟩
              have HW := hid (HW.out.more hff (blk_fb w t.a t.b t.f sd sp4 N))
              have HA := hid (HA.out.turnP hPf hff rfl)
              clear hPf hff
              have k0 := cell_regrown (HA.out.cellAt (j := 1) (mem_at 5 rfl) rfl)
              have kn := cell_regrown (HA.out.cellAt (j := 0) (mem_at 9 rfl) rfl)
              have kt := cell_regrown (HA.out.cellAt (j := 0) (mem_at 2 rfl) rfl)
              have wfa : ∀ f, Fence.wide.fn f = True := fun _ => rfl
              have cT : ∀ d os, CallsIn Fence.wide 6 Try.prog 41 #[.int .i64 ((pre.length : Int) + 1)] (grow (redrawn wf d) os) fun e w'' => e = .returned (.string (txt ((pre.length : Int) + 1))) ∧ ∃ p : Regrown, w'' = grow (redrawn wf p.d) p.os := fun d os => CallsIn.regrown_of (callsIn_wide.2 (text_any _))
              gi_wp2
              refine last_round rfl rfl (by kernel_rfl) (by kernel_rfl) (by kernel_rfl) (by kernel_rfl) rfl ?_
              simp only [nopLast, nopOf, List.dropLast, List.getLast_cons_cons, List.getLast_singleton]
              repeat (quiet_step_in (first | exact cT _ _ | exact ⟨fun _ => by omega, cT _ _⟩))
              refine wpQuietIn_nil ?_
              intro wg hBg
              have HA := hid (HA.out.later hBg)
              have HW := hid (HW.out.later hBg)
              clear hBg k0 kn kt wfa cT
              gi_wp2
              refine ⟨trivial, (CallsIn.inRound l (callsIn_wide.2 (PAddS (v := txt ((pre.length : Int) + 1)) (HA.out.ptAt (mem_at 0 rfl)) hmn T3.out))).mono ?_⟩
              rintro e wh ⟨rfl, hPh, hfh⟩
              have HW := hid (HW.out.more hfh (blk_fb w t.a t.b t.f sd sp4 N))
              have HA := hid (HA.out.turnP hPh hfh rfl)
              clear hPh hfh
              have k0 := cell_regrown (HA.out.cellAt (j := 2) (mem_at 5 rfl) rfl)
              have kn := cell_regrown (HA.out.cellAt (j := 0) (mem_at 9 rfl) rfl)
              have kt := cell_regrown (HA.out.cellAt (j := 0) (mem_at 2 rfl) rfl)
              have wfa : ∀ f, Fence.wide.fn f = True := fun _ => rfl
              gi_wp2
              refine last_round rfl rfl (by kernel_rfl) (by kernel_rfl) (by kernel_rfl) (by kernel_rfl) rfl ?_
              simp only [nopLast, nopOf, List.dropLast, List.getLast_cons_cons, List.getLast_singleton]
              repeat (quiet_step_in (fail))
              refine wpQuietIn_nil ?_
              intro wi hBi
              have HA := hid (HA.out.later hBi)
              have HW := hid (HW.out.later hBi)
              clear hBi k0 kn kt wfa
              gi_wp2
              refine ⟨trivial, (CallsIn.inRound l (callsIn_wide.2 (PAddR (v := (pre.length : Int) + 1) (HA.out.ptAt (mem_at 0 rfl)) hmn B3.out))).mono ?_⟩
              rintro e wj ⟨rfl, hPj, hfj⟩
              rw [wsOf_add (f := t.f.now sd sp4) (by have := LS.out; have := LP.out; simp only; omega) (by have := LS.out; simp only; omega), wsT_add (f := t.f.now sd sp4) (by have := LS.out; have := LP.out; simp only; omega) (by have := LS.out; simp only; omega)] at hPj
              have HW := hid (HW.out.more hfj (blk_fb w t.a t.b t.f sd sp4 N))
              have HA : Hid (All (partsP w t.a t.b t.f (sd.set m ((pre.length : Int) + 1)) (sp4.set m true) N g (q + 1) (pre.length + 1)) wj) := hid (HA.out.turnP hPj hfj rfl)
              have LS : Hid ((sd.set m ((pre.length : Int) + 1)).length = t.f.n) := hid (by have := LS.out; simpa using this)
              have LP : Hid ((sp4.set m true).length = t.f.n) := hid (by have := LP.out; simpa using this)
              generalize sd.set m ((pre.length : Int) + 1) = sd5 at HA LS
              generalize sp4.set m true = sp5 at HA LP
              clear hPj hfj O3 T3 B3
              have k3 := HA.out.cellAt (j := 0) (mem_at 8 rfl) rfl
              have l3 : w.heap.size + 1 + 1 + 1 < wj.heap.size := World.block_lt_of_cell? _ _ (by rw [k3])
              gi_wp2
              have hW9 := HW.out.later (ba wj (.cells #[.int .i64 0] 3))
              have A9 := HA.out.addBlk [.int .i64 0] 3
              have hr9 : (wj.alloc (.cells #[.int .i64 0] 3)).heap[l]? = some (.loop r) := (hW9.block l (Array.getElem?_eq_some_iff.1 HR.out).1 (fun e => by have := HFB.out l e; have := HL.out; omega)).trans HR.out
              have hFP9 := parts_lt HA.out
              have hFB9 : ∀ k ∈ fbL w t.a t.b t.f N, k < (wj.alloc (.cells #[.int .i64 0] 3)).heap.size := fun k hk => Nat.lt_of_lt_of_le (HFB.out k hk) (by
                have h1 := (Array.getElem?_eq_some_iff.1 hr9).1
                have := HL.out; omega)
              have hWs : W.heap.size ≤ wj.heap.size := HW.out.size
              have c7 := A9.cellAt (j := 0) (mem_at 8 rfl) rfl
              have l7 : w.heap.size + 1 + 1 < (wj.alloc (.cells #[.int .i64 0] 3)).heap.size := World.block_lt_of_cell? _ _ (by rw [c7])
              have hS5 := hid (said_wsOf (f := t.f.now sd5 sp5) (by rw [LS.out, LP.out]))
              have hsz : (wj.alloc (.cells #[.int .i64 0] 3)).heap.size = wj.heap.size + 1 := World.size_alloc _ _
              generalize wj.alloc (.cells #[.int .i64 0] 3) = w9 at hW9 A9 hr9 hFB9 c7 l7 hsz ⊢
              have HFP9 := hid hFP9
              have HFB9 := hid hFB9
              clear HW HA k3 l3 hFP9 hFB9
              generalize wj.heap.size = bk at A9 hsz hWs HFP9 ⊢
              have HA := hid A9
              have HW := hid hW9
              have HSZ := hid hsz
              clear A9 hW9 hsz
              refine wpIn_rangeFunc_ownN (l₀ := l) (r₀ := r) rfl hr9 (by omega) (gf := 60) (lb := #[.pointer (some ⟨w.heap.size + 1 + 1, 0, none⟩)]) rfl trivial (enters_of Try.func60 (by kernel_rfl) rfl)
                ((stopsI (n := 9 - 1 - 1 - 1) (by omega) l7 c7 (HA.out.ptAt (mem_at 1 rfl)).ta).inRound l) (fun _ _ => trivial) (fun _ _ _ _ _ _ _ _ => trivial) (Below.refl _ _) (fun _ => rfl)
                (fun pre' V => All (blkC bk [.int .i64 pre'.length] 3 :: partsP w t.a t.b t.f sd5 sp5 N g (q + 1) (pre.length + 1)) V ∧ Fr (fbL w t.a t.b t.f N) W V)
                (fun cd pre' _ => cd = .ret ∧ ¬ pre' <+: said 0 (opt sd5 sp5))
                (fun s A C row hs hg hr => ⟨hs.1.grown hg (fun r e => (hr r e).1) (fun d hd k hk => by
                  have := HSZ.out
                  rcases List.mem_cons.1 hd with rfl | hd
                  · have : k = bk := by simpa [blkC] using hk
                    omega
                  · have := HFP9.out _ _ _ _ d hd k hk
                    omega), hs.2.grown hg (fun r e => (hr r e).1) (by have := HSZ.out; omega)⟩)
                (fun _ _ _ _ _ hs _ _ => hs)
                ⟨HA.out, HW.out⟩
                (fun z a'' _ => a'' = { tmps := #[Value.agg #[Value.pointer (some { block := t.a, off := 0 }), Value.pointer (some { block := t.b, off := 0 }), Value.pointer (some { block := t.f.r, off := 0 })], Value.int IntKind.i64 who, Value.int IntKind.i64 v, Value.pointer (some { block := w.heap.size, off := 0 }), undef, undef, Value.pointer (some { block := w.heap.size + 1, off := 0 }), Value.pointer (some { block := w.heap.size + 1 + 1 + 1, off := 0 }), Value.pointer (some { block := w.heap.size + 1 + 1 + 1 + 1, off := 0 }), Value.int IntKind.i64 ↑k, Value.pointer (some { block := N, off := 0 }), Value.pointer (some { block := N + 1, off := 0 }), Value.pointer (some { block := N + 1 + 1, off := 0 }), Value.int IntKind.i64 ↑q, encI x2, Value.pointer (some { block := bk, off := 0 }), Value.int IntKind.i64 z.1, encI z.2, undef, undef, Value.pointer (some { block := w.heap.size, off := 0 }), Value.pointer (some { block := t.a, off := 0 }), Value.func (Fn.func 60) #[] #[Value.pointer (some { block := w.heap.size + 1 + 1, off := 0 })], Value.pointer (some { block := w.heap.size, off := 2 }), Value.pointer (some { block := t.f.r, off := 0 }), Value.pointer (some { block := t.f.r, off := 0 }), Value.pointer (some { block := t.f.r, off := 0 }), Value.slice (some { block := t.f.s, off := 0 }) t.f.n t.f.cs, Value.int IntKind.i64 ↑t.f.n, Value.int IntKind.i64 who, Value.int IntKind.i64 ↑t.f.n, Value.int IntKind.i64 ↑k, Value.pointer (some { block := w.heap.size, off := 0 }), Value.pointer (some { block := t.a, off := 0 }), Value.int IntKind.i64 ↑k, Value.int IntKind.i64 v, Value.tuple #[Value.bool (bif b then some y else none).isNone, Value.int IntKind.i64 0], Value.pointer (some { block := w.heap.size, off := 1 }), Value.pointer (some { block := t.b, off := 0 }), Value.int IntKind.i64 ↑k, Value.int IntKind.i64 v, Value.string (txt v), Value.tuple #[Value.bool (bif b then some y else none).isNone, Value.int IntKind.i64 0], Value.pointer (some { block := w.heap.size, off := 2 }), Value.pointer (some { block := t.f.r, off := 0 }), Value.int IntKind.i64 ↑k, Value.int IntKind.i64 v, Value.tuple #[Value.bool !b, Value.int IntKind.i64 0], Value.pointer (some { block := w.heap.size, off := 2 }), Value.pointer (some { block := t.f.r, off := 0 }), Value.pointer (some { block := g.r, off := 0 }), Value.func (Fn.func 60) #[] #[Value.pointer (some { block := w.heap.size + 1 + 1, off := 0 })], Value.int IntKind.i64 ↑q, encI x2, Value.int IntKind.i64 ↑q, Value.int IntKind.i64 ↑t.f.n, Value.bool true, Value.bool true, Value.pointer (some { block := g.r, off := 0 }), Value.pointer (some { block := g.r, off := 0 }), Value.pointer (some { block := g.r, off := 1 }), Value.slice (some { block := g.p, off := 0 }) t.f.n g.cp, Value.int IntKind.i64 ↑q, Value.pointer (some { block := g.p, off := q }), Value.bool true, Value.bool false, Value.bool false, u67, u68, Value.int IntKind.i64 ↑q, Value.int IntKind.i64 ↑t.f.n, Value.bool false, Value.bool false, Value.int IntKind.i64 ↑q, Value.int IntKind.i64 ↑q, Value.bool false, Value.bool false, Value.bool false, encI x2, Value.pointer (some { block := g.r, off := 0 }), Value.pointer (some { block := g.r, off := 0 }), Value.pointer (some { block := g.r, off := 0 }), Value.slice (some { block := g.s, off := 0 }) t.f.n g.cs, Value.int IntKind.i64 ↑q, Value.pointer (some { block := g.s, off := q }), Value.int IntKind.i64 x2, Value.bool false, Value.bool false, Value.int IntKind.i64 ↑q, Value.int IntKind.i64 (↑q + 1), Value.int IntKind.i64 ↑pre.length, Value.int IntKind.i64 (↑pre.length + 1), Value.pointer (some { block := w.heap.size, off := 0 }), Value.pointer (some { block := t.a, off := 0 }), Value.int IntKind.i64 ↑q, Value.bool (bif b3 then some y3 else none).isSome, Value.pointer (some { block := w.heap.size, off := 1 }), Value.pointer (some { block := t.b, off := 0 }), Value.int IntKind.i64 ↑q, Value.bool (bif b3 then some y3 else none).isSome, Value.pointer (some { block := w.heap.size, off := 2 }), Value.pointer (some { block := t.f.r, off := 0 }), Value.int IntKind.i64 ↑q, Value.bool b3, Value.pointer (some { block := w.heap.size, off := 0 }), Value.pointer (some { block := t.a, off := 0 }), Value.int IntKind.i64 ↑q, Value.int IntKind.i64 (↑q + 2), Value.int IntKind.i64 ↑t.f.n, Value.int IntKind.i64 ↑m, Value.int IntKind.i64 (↑pre.length + 1), Value.tuple #[Value.bool (bif b4 then some y4 else none).isNone, Value.int IntKind.i64 0], Value.pointer (some { block := w.heap.size, off := 1 }), Value.pointer (some { block := t.b, off := 0 }), Value.int IntKind.i64 ↑q, Value.int IntKind.i64 (↑q + 2), Value.int IntKind.i64 ↑t.f.n, Value.int IntKind.i64 ↑m, Value.int IntKind.i64 (↑pre.length + 1), Value.string (txt (↑pre.length + 1)), Value.tuple #[Value.bool (bif b4 then some y4 else none).isNone, Value.int IntKind.i64 0], Value.pointer (some { block := w.heap.size, off := 2 }), Value.pointer (some { block := t.f.r, off := 0 }), Value.int IntKind.i64 ↑q, Value.int IntKind.i64 (↑q + 2), Value.int IntKind.i64 ↑t.f.n, Value.int IntKind.i64 ↑m, Value.int IntKind.i64 (↑pre.length + 1), Value.tuple #[Value.bool !b4, Value.int IntKind.i64 0], Value.func (Fn.func 60) #[] #[Value.pointer (some { block := w.heap.size + 1 + 1, off := 0 })], Value.int IntKind.i64 z.1, encI z.2, undef, undef, undef, undef, undef, undef, undef, undef, undef, undef, undef, undef, undef, undef, undef, undef, undef, undef, undef, undef, undef, undef, undef, undef, undef, undef, undef, undef, undef], defers := [] }) (fun _ _ _ _ _ _ hs _ _ => hs) ?assign2 ?body2 ?done2 ?stop2
              case assign2 =>
                intro l2 pre' z V K hI hK
                gi_wp2
                exact hK _ _ (KeepsFrom.refl _ _) trivial hI (by simp)
              case body2 =>
                rintro l2 pre' z a'' V hl2 _ ⟨hA, hF⟩ rfl hlt2
                dsimp only
                have hp8 : pre'.length < 7 := by
                  have h1 := said_len 0 (wsOf (t.f.now sd5 sp5))
                  have h2 := (hA.ptAt (mem_at 1 rfl)).ta.len
                  omega
                have R := (hA.ptAt (mem_at 1 rfl)).rf
                have ct := hA.cellAt (j := 2) (mem_at 6 rfl) rfl
                have cr := hA.cellAt (j := 0) (mem_at 7 rfl) rfl
                have fr := hA.freeAt (mem_at 7 rfl) 0
                have cb := hA.cellAt (j := 0) (mem_at 0 rfl) rfl
                have fb := hA.freeAt (mem_at 0 rfl) 0
                have HA2 := hid hA
                have HF2 := hid hF
                have HR2 := hid R
                clear hA hF hlt2 R c7 l7 hl2
                obtain ⟨z1, z2⟩ := z
                have hat : ∀ h : pre' ++ [(z1, z2)] <+: said 0 (opt sd5 sp5), ∃ k : Nat, k < t.f.n ∧ z1 = k ∧ sd5[k]? = some z2 ∧ sp5[k]? = some true := fun h => said_at (f := t.f.now sd5 sp5) LS.out LP.out (prefix_mem h)
                have HAT := hid hat
                have HGR := hid (show ∀ k ∈ [bk], W.heap.size ≤ k from by simpa using hWs)
                clear hat
                by_cases hz : z1 < 0 ∨ (t.f.n : Int) ≤ z1
                · have HZ := hid hz
                  clear hz
                  gi_wp2
                  refine ⟨trivial, (CallsIn.inRound l2 (CallsIn.inRound l (callsIn_wide.2 (RGet_bad HR2.out HZ.out)))).mono ?_⟩
                  rintro e w' ⟨rfl, rfl⟩
                  gi_wp2
                  refine ⟨((Fr.refl (fbL w t.a t.b t.f N) _).set _ _ _ (by simp)).keeps HFB9.out, rfl, ?_⟩
                  intro h
                  obtain ⟨kk, h1, h2, _⟩ := HAT.out h
                  have := HZ.out
                  omega
                · obtain ⟨kk, rfl, hkk⟩ : ∃ kk : Nat, z1 = kk ∧ kk < t.f.n := ⟨z1.toNat, by omega, by omega⟩
                  clear hz
                  obtain ⟨y6, hy6⟩ : ∃ y, sd5[kk]? = some y := ⟨_, List.getElem?_eq_getElem (by have := LS.out; omega)⟩
                  obtain ⟨b6, hb6⟩ : ∃ b, sp5[kk]? = some b := ⟨_, List.getElem?_eq_getElem (by have := LP.out; omega)⟩
                  have HY6 := hid hy6
                  have HB6 := hid hb6
                  clear hy6 hb6
                  gi_wp2
                  refine ⟨trivial, (CallsIn.inRound l2 (CallsIn.inRound l (callsIn_wide.2 (RGet_ok HR2.out hkk HB6.out HY6.out)))).mono ?_⟩
                  rintro e w' ⟨rfl, rfl⟩
                  cases b6 with
                  | false =>
                    gi_wp2
                    refine ⟨((Fr.refl (fbL w t.a t.b t.f N) _).set _ _ _ (by simp)).keeps HFB9.out, rfl, ?_⟩
                    intro h
                    obtain ⟨k6, h1, h2, h3, h4⟩ := HAT.out h
                    obtain rfl : kk = k6 := by omega
                    rw [HB6.out] at h4
                    simp at h4
                  | true =>
                    by_cases hz2 : z2 = y6
                    · subst hz2
                      have g2 : (z2 != z2) = false := by simp
                      gi_wp2
                      refine ⟨(KeepsOthers.setCell _ _ _).from _, trivial, ?_, HF2.out.trans (Fr.setCell _ bk 0 _) (fun k hk => Or.inr (HGR.out k hk))⟩
                      rw [List.length_append]
                      exact HA2.out.setIn (xs := []) 0 (.int .i64 ((pre'.length : Int) + 1))
                    · have g2 : (z2 != y6) = true := by simp [hz2]
                      gi_wp2
                      refine ⟨((Fr.refl (fbL w t.a t.b t.f N) _).set _ _ _ (by simp)).keeps HFB9.out, rfl, ?_⟩
                      intro h
                      obtain ⟨k6, h1, h2, h3, h4⟩ := HAT.out h
                      obtain rfl : kk = k6 := by omega
                      rw [HY6.out] at h3
                      simp at h3
                      exact hz2 h3.symm
              case done2 =>
                rintro ys V hys ⟨hA, hF⟩
                have hlen : ys.length = cnt sp5 := by rw [hys]; exact wsOf_len (f := t.f.now sd5 sp5) (by rw [LS.out, LP.out])
                rw [hlen] at hA
                clear hys hlen c7 l7
                have R := (hA.ptAt (mem_at 1 rfl)).rf
                have cC : ∀ d os, CallsIn Fence.wide 6 Try.prog 48 #[.pointer (some ⟨t.f.r, 0, none⟩)] (grow (redrawn V d) os) fun e w'' => e = .returned (.int .i64 (cnt sp5)) ∧ ∃ p : Regrown, w'' = grow (redrawn V p.d) p.os := fun d os => CallsIn.regrown_of ((callsIn_wide.2 (RCount (R.later (below_regrown V d os)))).mono (by rintro e w' ⟨h1, rfl⟩; exact ⟨h1, Below.refl _ _⟩))
                have k0 := cell_regrown (hA.cellAt (j := 2) (mem_at 6 rfl) rfl)
                have kb := cell_regrown (hA.cellAt (j := 0) (mem_at 0 rfl) rfl)
                have wfa : ∀ f, Fence.wide.fn f = True := fun _ => rfl
                have HA := hid hA
                have HF := hid hF
                clear hA hF R
                gi_wp2
                refine quiet_round_below rfl (by kernel_rfl) (by kernel_rfl) (by kernel_rfl) ?_
                repeat (quiet_step_in (first | exact cC _ _ | exact ⟨fun _ => by omega, cC _ _⟩))
                refine wpQuietIn_nil ?_
                intro V2 hw'
                obtain ⟨⟨dq, osq⟩, hw''⟩ := hw'
                have hBg := below_regrown V dq osq
                rw [← hw''] at hBg
                clear hw'' k0 kb wfa cC
                have HA := hid (HA.out.later hBg)
                have HF := hid (HF.out.later hBg)
                clear hBg
                gi_wp2
                refine ⟨HF.out.keeps HFB.out, trivial, q + 1, sd5, sp5, by omega, Q2.out, ?_⟩
                rw [List.length_append]
                exact HA.out.tail
              case stop2 =>
                rintro cd pre' V h1 ⟨_, h2⟩
                exact absurd (by rw [hS5.out] at h1; exact h1) h2
            · have g2 : (x2 != vq) = true := by simp [hx2]
              gi_wp2
              refine quiet_round rfl (by kernel_rfl) (by kernel_rfl) (by kernel_rfl) ?_
              repeat (first | gi_big_quiet_step (fail) | quiet_step_in (fail))
              refine wpQuietIn_nil ?_
              intro _ hw'
              obtain ⟨nq1, hw''⟩ := hw'
              subst hw''
              gi_wp2
              refine quiet_round rfl (by kernel_rfl) (by kernel_rfl) (by kernel_rfl) ?_
              repeat (first | gi_big_quiet_step (fail) | quiet_step_in (fail))
              refine wpQuietIn_nil ?_
              intro _ hw'
              obtain ⟨nq2, hw''⟩ := hw'
              subst hw''
              gi_wp2
              refine ⟨((HW.out.drewN _).set _ _ _ (by simp)).keeps HFB.out, rfl, ?_⟩
              rw [HP.out]
              intro h; exact hx2 (by have := HN.out h; simp at this; exact this)
          · have g1 : (x1 != (q : Int)) = true := by simp [hx1]
            gi_wp2
            refine quiet_round rfl (by kernel_rfl) (by kernel_rfl) (by kernel_rfl) ?_
            repeat (first | gi_big_quiet_step (fail) | quiet_step_in (fail))
            refine wpQuietIn_nil ?_
            intro _ hw'
            obtain ⟨nq1, hw''⟩ := hw'
            subst hw''
            gi_wp2
            refine quiet_round rfl (by kernel_rfl) (by kernel_rfl) (by kernel_rfl) ?_
            repeat (first | gi_big_quiet_step (fail) | quiet_step_in (fail))
            refine wpQuietIn_nil ?_
            intro _ hw'
            obtain ⟨nq2, hw''⟩ := hw'
            subst hw''
            gi_wp2
            refine ⟨((HW.out.drewN _).set _ _ _ (by simp)).keeps HFB.out, rfl, ?_⟩
            rw [HP.out]
            intro h; exact hx1 (by have := HN.out h; simp at this; exact this.1)
  case done =>
    rintro D ys W hD hys ⟨p, sd, sp, hp, hpre, hA⟩ hKD
    have R := hA.rfAt (mem_at 4 rfl)
    have hlen : ys.length = cnt g.spoke := by rw [hys, hS.out]; exact said_opt 0 _ _ (by rw [R.lsaid, R.lspoke])
    rw [hlen] at hA
    have hTh : Th W { t with f := t.f.now sd sp } := Pt.th (t := { t with f := t.f.now sd sp }) (hA.ptAt (mem_at 0 rfl))
    have cC : ∀ d os, CallsIn Fence.wide 8 Try.prog 48 #[.pointer (some ⟨g.r, 0, none⟩)] (grow (redrawn W d) os) fun e w'' => e = .returned (.int .i64 (cnt g.spoke)) ∧ ∃ p : Regrown, w'' = grow (redrawn W p.d) p.os := fun d os => CallsIn.regrown_of ((callsIn_wide.2 (RCount (R.later (below_regrown W d os)))).mono (by rintro e w' ⟨h1, rfl⟩; exact ⟨h1, Below.refl _ _⟩))
    have cA : ∀ d os, CallsIn Fence.wide 8 Try.prog 26 #[.agg #[.pointer (some ⟨t.a, 0, none⟩), .pointer (some ⟨t.b, 0, none⟩), .pointer (some ⟨t.f.r, 0, none⟩)], .int .i64 9] (grow (redrawn W d) os) fun e w'' => e = .returned (.bool true) ∧ ∃ p : Regrown, w'' = grow (redrawn W p.d) p.os := fun d os => CallsIn.regrown_of (callsIn_wide.2 (all_any (t := { t with f := t.f.now sd sp }) (hTh.later (below_regrown W d os)) (by omega) (by omega)))
    have k0 := cell_regrown (hA.cellAt (j := 0) (mem_at 5 rfl) rfl)
    have k1 := cell_regrown (hA.cellAt (j := 1) (mem_at 5 rfl) rfl)
    have k2 := cell_regrown (hA.cellAt (j := 2) (mem_at 5 rfl) rfl)
    have kt := cell_regrown (hA.cellAt (j := 0) (mem_at 2 rfl) rfl)
    have kw := cell_regrown (hA.cellAt (j := 0) (mem_at 3 rfl) rfl)
    have wfa : ∀ f, Fence.wide.fn f = True := fun _ => rfl
    have hB1 := HFB.out (w.heap.size + 1) (by simp)
    have HA := hid hA
    have HKD := hid hKD
    clear hA hKD R hys hpre hlen hTh c7 l7
    gi_wp2
    refine last_in rfl rfl (by kernel_rfl) (by kernel_rfl) (by kernel_rfl) rfl ?_
    simp only [nopLast, nopOf, List.dropLast, List.getLast_cons_cons, List.getLast_singleton]
    repeat (quiet_step_in (first | exact cC _ _ | exact ⟨fun _ => by omega, cC _ _⟩ | exact cA _ _ | exact ⟨fun _ => by omega, cA _ _⟩))
    refine wpQuietIn_nil ?_
    intro W2 hB2
    have hK2 := hid ((hB2.block D (Array.getElem?_eq_some_iff.1 HKD.out).1).trans HKD.out)
    have HA := hid (HA.out.later hB2)
    have cr := HA.out.cellAt (j := 0) (mem_at 6 rfl) rfl
    have fr := HA.out.freeAt (mem_at 6 rfl) 0
    clear hB2 k0 k1 k2 kt kw wfa cC cA
    gi_wp2
    refine ⟨by simp, .inl ⟨_, _, rfl, run_takeDeferred ((other_set _ 0 _ (by omega)).trans hK2.out), ?_⟩⟩
    exact in_end H.out HA.out (by omega) hK2.out
  case stop =>
    rintro D c pre W _ h1 ⟨_, h2⟩ _
    exact absurd (by rw [hS.out] at h1; exact h1) h2
end Go.Proofs.Ytmpbdncgilahkaa

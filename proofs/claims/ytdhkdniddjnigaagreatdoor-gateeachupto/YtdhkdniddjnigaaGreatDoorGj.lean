import Derived.Test.YtdhkdniddjnigaaGreatDoorGi
namespace Go.Proofs.YtdhkdniddjnigaaGreatDoor
open Go.RowKit
set_option linter.unusedVariables false

theorem refL_len {no e : Int} (h0 : 0 ≤ no) (h1 : no ≤ 4611686018427387904) (e0 : 0 ≤ e) (e1 : e ≤ 4611686018427387904) : (refL no e).length ≤ 300 := by
  have n1 := itoa_len h0 (by omega)
  have n2 := itoa_len e0 (by omega)
  have := joinW_le (Lib.itoa no :: [refuB, Lib.itoa e])
  unfold refL lnB
  rw [List.length_append]
  unfold lenJ at this
  simp only [List.map_cons, List.map_nil, List.sum_cons, List.sum_nil, refuB, List.length_cons, List.length_nil] at this ⊢
  omega
/-- How many wait, by the gate's cell. -/
def wsN (G : Nat) (w : World) : Nat := match w.cell? ⟨G, 5, none⟩ with
  | some (.slice _ n _) => n
  | _ => 0
theorem chkA_rng (k s t n m : Int) : 0 ≤ chkA k s t n m ∧ chkA k s t n m ≤ 1000 := by
  unfold chkA
  split
  · omega
  · unfold chkT chkR
    repeat' split
    all_goals omega
theorem bgE_rng (x : Px) (q : Wi) : 0 ≤ bgE x q ∧ bgE x q ≤ 1000 := by
  unfold bgE
  have := chkA_rng q.o.k (⟨q.o.nm.toArray⟩ : ByteArray).size (⟨q.o.tx.toArray⟩ : ByteArray).size (q.o.n : Int) (q.o.m : Int)
  unfold Wi.chk
  repeat' split
  all_goals omega
/-- A block of one message is a list of one. -/
theorem All.blkMs {H : Nat} {x : Ms} {cs : List Comp} {w : World} (h : All (blkC H x.cells 51 :: cs) w) : All (msC (.slice (some ⟨H, 0, none⟩) 1 1) [x] :: cs) w := by
  have hg : w.heap[H]? = some (.cells x.cells.toArray 51 (0, 0)) := h.1.2.1
  refine ⟨⟨rowC_good _ _ _ _ _, ?_, fun k hk => h.1.2.2 k (by simpa [rowC, blkC, Value.ownBlock, eq_comm] using hk)⟩, fun d hd k hk => h.2.1 d hd k (by simpa [rowC, blkC, Value.ownBlock, eq_comm] using hk), h.2.2⟩
  refine ⟨by simp [Ms.len], Or.inr ⟨H, 1, x.cells.toArray, rfl, Nat.zero_le _, hg, Nat.le_refl _, by unfold maxLen; omega, by simp [Ms.len], ?_⟩⟩
  simp
  exact List.take_of_length_le (by rw [x.len]; exact Nat.le_refl _)
theorem Wi.fn_req {P : Nat} {q : Wi} (h : q.ask = false) : q.fn P = .func (.func 163) #[reqV P q] #[] := by unfold Wi.fn; rw [h]; rfl
theorem Wi.fn_que {P : Nat} {q : Wi} (h : q.ask = true) : q.fn P = .func (.func 165) #[queV P q] #[] := by unfold Wi.fn; rw [h]; rfl
theorem goL_no {m : Int} {s : Gs} {w : Wi} {r : List Wi} (h : bgE s.x w ≠ 0) : goL m s (w :: r) = ⟨(goL m s r).s, (goL m s r).ms, refL w.no (bgE s.x w) ++ (goL m s r).tl⟩ := by
  show (if bgE s.x w = 0 then _ else _) = _
  rw [if_neg h]
theorem goL_yes {m : Int} {s : Gs} {w : Wi} {r : List Wi} (h : bgE s.x w = 0) : goL m s (w :: r) = ⟨bgS m s w r, [bgM s.x w s.n1 s.n2], []⟩ := by
  show (if bgE s.x w = 0 then _ else _) = _
  rw [if_pos h]
/-- A wish begins, whichever it is. -/
theorem beginW_any {P : Nat} {x : Px} {b m n1 n2 : Int} {cs : List Comp} {w w0 : World} (h : All (pxL P x b m n1 n2 ++ cs) w) (hT : Tab w0) (hin : inC w0 ∈ cs) (I : PxI x m n1 n2) (q : Wi) :
    (q.ask = false ∧ Calls Tryz.prog 163 #[reqV P q] w (BgPost P x b m n1 n2 q cs)) ∨ (q.ask = true ∧ Calls Tryz.prog 165 #[queV P q] w (BgPost P x b m n1 n2 q cs)) := by
  cases hq : q.ask with
  | false => exact Or.inl ⟨rfl, reqBegin_any h hT hin I q hq⟩
  | true => exact Or.inr ⟨rfl, queBegin_any h hT hin I q hq⟩
theorem run_store_func (P : Program) (w : World) (a : Addr) (m : Mode) (f : Fn) (x y : Array Value) : (store a (.func f x y) m).run P w = stored P w a (.func f x y) m := run_store P w a _ m rfl
attribute [local go_sem] run_store_func
set_option maxHeartbeats 3200000 in
set_option maxRecDepth 1000000 in
/-- What waits begins. -/
theorem goOn_gt {G P : Nat} {s : Gs} {tl : List UInt8} {b m : Int} {cs : List Comp} {w : World} (h : Gt G P s tl b m cs w) (E : Evs cs) (I : PxI s.x m s.n1 s.n2) (hno : ∀ q ∈ s.ws, 0 ≤ q.no ∧ q.no ≤ 4611686018427387904) (hn : s.ws.length ≤ 16) (ht : tl.length ≤ 50000000000000) :
    Calls Tryz.prog 55 #[.pointer (some ⟨G, 3, none⟩)] w fun e w' => ∃ v, e = .returned v ∧ Gt G P (goM m s).s (tl ++ (goM m s).tl) b m (msC v (goM m s).ms :: cs) w' := by
  have N : ∀ (s' : Gs) tl' w', Gt G P s' tl' b m cs w' → Gt G P s' tl' b m (msC (.slice none 0 0) [] :: cs) w' := fun s' tl' w' h => by
    obtain ⟨t, u, v, h⟩ := h
    exact ⟨t, u, v, ((All.addRow0 (e := 51) (size := 23) h).perm List.perm_middle.symm)⟩
  by_cases hu : s.uw = 0
  · have e1 : goM m s = goL m s s.ws := by unfold goM; rw [if_pos hu]
    rw [e1]
    obtain ⟨R, hR⟩ : ∃ R, Hid (R = goL m s s.ws) := ⟨_, hid rfl⟩
    rw [← hR.out]
    have A0 : Hid (Gt G P { s with ws := s.ws } (tl ++ []) b m cs w) := hid (by rw [List.append_nil]; exact h)
    have HN := hid N
    have HNO := hid hno
    have HE := hid E
    have HI := hid I
    have HU := hid hu
    have HT := hid ht
    have HL := hid hn
    clear h N e1 hno E I hu ht hn
    go_enter Tryz.func55, Tryz.ntmps55
    go_wp2
    go_loopw [2] (fun u wr => ∃ (r : List Wi) (dn : List UInt8), u = .slice none 0 0 ∧ Hid (R = ⟨(goL m s r).s, (goL m s r).ms, dn ++ (goL m s r).tl⟩) ∧ Hid (dn.length + r.length * 300 ≤ 4800) ∧ Hid (∀ q ∈ r, 0 ≤ q.no ∧ q.no ≤ 4611686018427387904) ∧ Hid (Gt G P { s with ws := r } (tl ++ dn) b m cs wr)) (fun u wr => wsN G wr)
    case atStart => exact ⟨s.ws, [], rfl, hid (by rw [hR.out]; rfl), hid (by have := HL.out; simp only [List.length_nil]; omega), HNO, A0⟩
    case round =>
      clear A0
      obtain ⟨r, dn, rfl, HRr, HD, HNR, h5⟩ := hrel
      obtain ⟨txv, wsv, tov, A⟩ := h5.out
      clear h5
      have c4 : wr.cell? ⟨G, 4, none⟩ = some (.int .i64 0) := by rw [Gt.cell A 4, ← HU.out]; rfl
      obtain ⟨aw, cw, rfl⟩ := owns_form A.tail.tail.tail.1.2.1
      have c5 : wr.cell? ⟨G, 5, none⟩ = some (.slice aw r.length cw) := Gt.cell A 5
      cases r with
      | nil =>
        have P1 : Hid (Gt G P R.s (tl ++ R.tl) b m (msC (.slice none 0 0) R.ms :: cs) wr) := hid (by
          rw [HRr.out]
          simp only [goL, List.append_nil]
          exact HN.out _ _ _ ⟨txv, _, tov, A⟩)
        clear A HRr HD HNR HN HNO HE HI HU HT HL hR
        simp only [List.length_nil] at c5
        go_wp2
        go_ret
        exact ⟨_, rfl, P1.out⟩
      | cons q r =>
        obtain ⟨g, eg, _, hc0⟩ := row_at A.tail.tail.tail.1.2.1 (k := 0) (u := .int .i64 q.no) rfl
        subst eg
        obtain ⟨g', eg', hgl, hc1⟩ := row_at A.tail.tail.tail.1.2.1 (k := 1) (u := q.fn P) rfl
        simp only [Option.some.injEq, Addr.mk.injEq, and_true] at eg'
        subst eg'
        obtain ⟨B, hB⟩ : ∃ B, Hid (B = wr.heap.size) := ⟨_, hid rfl⟩
        have A1 := A.addBlk [.int .i64 q.no, q.fn P] 136
        rw [← hB.out] at A1
        have A1 := A1.perm (List.perm_middle (l₁ := [_, _, _, _]))
        have D := hid (del_first (g := g) (c := cw) (n := (q :: r).length) (a := .int .i64 q.no) (b := q.fn P) (us := r.flatMap (Wi.cells P)) A1 (by have := HD.out; simp only [List.length_cons] at this ⊢; omega) (fun u hu => flat_one (fun x => Wi.one P x) r u hu))
        have n0 : (0 : Int) < ((q :: r).length : Int) := by simp only [List.length_cons]; omega
        have n0' : 0 < (q :: r).length := by simp
        have en : (q :: r).length - 1 = r.length := rfl
        rw [en] at D
        have m0 : Hid (wsN G wr = (q :: r).length) := hid (by unfold wsN; rw [c5])
        have k5 : Hid ((wr.alloc (.cells [.int .i64 q.no, q.fn P].toArray 136)).cell? ⟨G, 5, none⟩ = some (.slice (some ⟨g, 0, none⟩) (q :: r).length cw)) := hid (by rw [cell_at A1.tail.tail.1.2.1]; rfl)
        clear A A1
        obtain ⟨nf, bv, hfn, hnf⟩ : ∃ nf bv, q.fn P = .func (.func nf) #[bv] #[] ∧ Hid ((nf = 163 ∧ q.ask = false ∧ bv = reqV P q) ∨ (nf = 165 ∧ q.ask = true ∧ bv = queV P q)) := by
          cases hq : q.ask with
          | false => exact ⟨163, reqV P q, Wi.fn_req hq, hid (Or.inl ⟨rfl, rfl, rfl⟩)⟩
          | true => exact ⟨165, queV P q, Wi.fn_que hq, hid (Or.inr ⟨rfl, rfl, rfl⟩)⟩
        rw [hfn] at hc1 D k5
        have hfn := hid hfn
        generalize (q :: r).length = nq at *
        go_upto_region 3 with fail
        simp only [← hB.out]
        generalize wr.alloc (.cells #[.int .i64 q.no, .func (.func nf) #[bv] #[]] 136) = w1 at *
        have k5 := k5.out
        go_upto_region 4 with (go_at_call 88; refine D.out.mono ?_; rintro e w2 ⟨rfl, A2⟩; have A3 := A2.perm (List.perm_middle (l₁ := [_, _])); have f5 := free_at A3.1.2.1 5; have c5' : w2.cell? ⟨G, 5, none⟩ = some (.slice (some ⟨g, 0, none⟩) nq cw) := (cell_at A3.1.2.1 5).trans rfl; have A4 := hid (A3.setBlk 5 (.slice (some ⟨g, 0, none⟩) r.length cw)); clear A2 A3)
        clear D k5 c5 c4 hc0 hc1 f5 c5'
        generalize w2.setCell ⟨G, 5, none⟩ (.slice (some ⟨g, 0, none⟩) r.length cw) = w3 at *
        have A5 := hid (A4.out.perm (List.perm_append_comm_assoc [_, _, _, _, _] (pxL P s.x b m s.n1 s.n2) cs))
        have kB1 : w3.cell? ⟨B, 1, none⟩ = some (.func (.func nf) #[bv] #[]) := (cell_at A4.out.tail.tail.1.2.1 1).trans rfl
        obtain ⟨w0, hin0, hT0⟩ := HE.out.I
        clear A4
        rcases hnf.out with ⟨rfl, hq, rfl⟩ | ⟨rfl, hq, rfl⟩
        · have BC := hid (reqBegin_any A5.out hT0 (List.mem_append_right _ hin0) HI.out q hq)
          clear A5
          go_wp2_with fail
          refine BC.out.mono ?_
          rintro e w4 hp
          clear BC kB1
          rcases hp with ⟨hbe, rfl, A6⟩ | ⟨hbe, H, rfl, A6⟩
          · have hr := bgE_rng s.x q
            have heq : (bgE s.x q == 0) = false := by simpa using hbe
            have A7 := A6.perm (List.perm_append_comm_assoc [_, _, _, _, _] (pxL P s.x b m s.n1 s.n2) cs).symm
            have kB0 : w4.cell? ⟨B, 0, none⟩ = some (.int .i64 q.no) := (cell_at A7.tail.tail.1.2.1 0).trans rfl
            have A8 := A7.perm (List.Perm.cons _ (List.perm_middle (l₁ := [_, _, _])))
            have RC := hid (refuse_any A8 (fun W hW => HE.out.V W (show All (pxL P s.x b m s.n1 s.n2 ++ cs) W from hW.tail.tail.tail).app) (HNR.out q (by simp)).1 (HNR.out q (by simp)).2 hr.1 (by omega) (by have := HT.out; have := HD.out; rw [List.length_append]; omega))
            have HX : Hid (R = ⟨(goL m s r).s, (goL m s r).ms, (dn ++ refL q.no (bgE s.x q)) ++ (goL m s r).tl⟩) := hid (by rw [HRr.out, goL_no hbe, List.append_assoc])
            have HLn : Hid ((refL q.no (bgE s.x q)).length ≤ 300) := hid (refL_len (HNR.out q (by simp)).1 (HNR.out q (by simp)).2 hr.1 (by omega))
            clear A6 A7 A8 hr HRr hbe
            generalize bgE s.x q = er at *
            go_wp2_with (go_at_call 54; refine RC.out.mono ?_; rintro e w5 ⟨rfl, tov', A9⟩; have A10 := hid ((A9.perm (List.perm_middle (l₁ := [_, _, _]))).tail.perm (List.Perm.cons _ (List.perm_middle (l₁ := [_, _])))); clear A9)
            have m1 : wsN G w5 = r.length := by
              unfold wsN
              rw [cell_at A10.out.1.2.1]
              rfl
            go_roundw
            case rel => exact ⟨r, dn ++ refL q.no er, rfl, HX, hid (by have := HD.out; have := HLn.out; rw [List.length_append]; omega), hid (fun y hy => HNR.out y (by simp [hy])), hid ⟨txv, _, tov', by rw [← List.append_assoc]; exact A10.out⟩⟩
            case measure => rw [m1, m0.out]; omega
          · have A7 := A6.perm (List.Perm.cons _ (List.perm_append_comm_assoc [_, _, _, _, _] (pxL P (bgX s.x q s.n1 s.n2) b m (bg1 m s.n1 q) (bg2 m s.n2 q)) cs).symm)
            have kB0 : w4.cell? ⟨B, 0, none⟩ = some (.int .i64 q.no) := (cell_at A7.tail.tail.tail.1.2.1 0).trans rfl
            have c4' : w4.cell? ⟨G, 4, none⟩ = some (.int .i64 s.uw) := (cell_at A7.tail.1.2.1 4).trans rfl
            have f4 := free_at A7.tail.1.2.1 4
            have A8 := (((A7.swap.setBlk 4 (.int .i64 q.no)).swap.blkMs).perm (List.perm_middle (l₁ := [_, _, _]))).tail
            have A9 := (A8.perm (List.Perm.cons _ (List.Perm.cons _ (perm3 _ _ _ _)))).perm (List.perm_middle (l₁ := gtL G P (bgS m s q r) (tl ++ dn) b m txv (.slice (some ⟨g, 0, none⟩) r.length cw) tov)).symm
            have P1 : Hid (Gt G P R.s (tl ++ R.tl) b m (msC (.slice (some ⟨H, 0, none⟩) 1 1) R.ms :: cs) (w4.setCell ⟨G, 4, none⟩ (.int .i64 q.no))) := hid (by
              rw [HRr.out, goL_yes hbe]
              simp only [List.append_nil]
              exact ⟨_, _, _, A9⟩)
            clear A6 A7 A8 A9 HRr hbe
            go_wp2
            go_ret
            exact ⟨_, rfl, P1.out⟩
        · have BC := hid (queBegin_any A5.out hT0 (List.mem_append_right _ hin0) HI.out q hq)
          clear A5
          go_wp2_with fail
          refine BC.out.mono ?_
          rintro e w4 hp
          clear BC kB1
          rcases hp with ⟨hbe, rfl, A6⟩ | ⟨hbe, H, rfl, A6⟩
          · have hr := bgE_rng s.x q
            have heq : (bgE s.x q == 0) = false := by simpa using hbe
            have A7 := A6.perm (List.perm_append_comm_assoc [_, _, _, _, _] (pxL P s.x b m s.n1 s.n2) cs).symm
            have kB0 : w4.cell? ⟨B, 0, none⟩ = some (.int .i64 q.no) := (cell_at A7.tail.tail.1.2.1 0).trans rfl
            have A8 := A7.perm (List.Perm.cons _ (List.perm_middle (l₁ := [_, _, _])))
            have RC := hid (refuse_any A8 (fun W hW => HE.out.V W (show All (pxL P s.x b m s.n1 s.n2 ++ cs) W from hW.tail.tail.tail).app) (HNR.out q (by simp)).1 (HNR.out q (by simp)).2 hr.1 (by omega) (by have := HT.out; have := HD.out; rw [List.length_append]; omega))
            have HX : Hid (R = ⟨(goL m s r).s, (goL m s r).ms, (dn ++ refL q.no (bgE s.x q)) ++ (goL m s r).tl⟩) := hid (by rw [HRr.out, goL_no hbe, List.append_assoc])
            have HLn : Hid ((refL q.no (bgE s.x q)).length ≤ 300) := hid (refL_len (HNR.out q (by simp)).1 (HNR.out q (by simp)).2 hr.1 (by omega))
            clear A6 A7 A8 hr HRr hbe
            generalize bgE s.x q = er at *
            go_wp2_with (go_at_call 54; refine RC.out.mono ?_; rintro e w5 ⟨rfl, tov', A9⟩; have A10 := hid ((A9.perm (List.perm_middle (l₁ := [_, _, _]))).tail.perm (List.Perm.cons _ (List.perm_middle (l₁ := [_, _])))); clear A9)
            have m1 : wsN G w5 = r.length := by
              unfold wsN
              rw [cell_at A10.out.1.2.1]
              rfl
            go_roundw
            case rel => exact ⟨r, dn ++ refL q.no er, rfl, HX, hid (by have := HD.out; have := HLn.out; rw [List.length_append]; omega), hid (fun y hy => HNR.out y (by simp [hy])), hid ⟨txv, _, tov', by rw [← List.append_assoc]; exact A10.out⟩⟩
            case measure => rw [m1, m0.out]; omega
          · have A7 := A6.perm (List.Perm.cons _ (List.perm_append_comm_assoc [_, _, _, _, _] (pxL P (bgX s.x q s.n1 s.n2) b m (bg1 m s.n1 q) (bg2 m s.n2 q)) cs).symm)
            have kB0 : w4.cell? ⟨B, 0, none⟩ = some (.int .i64 q.no) := (cell_at A7.tail.tail.tail.1.2.1 0).trans rfl
            have c4' : w4.cell? ⟨G, 4, none⟩ = some (.int .i64 s.uw) := (cell_at A7.tail.1.2.1 4).trans rfl
            have f4 := free_at A7.tail.1.2.1 4
            have A8 := (((A7.swap.setBlk 4 (.int .i64 q.no)).swap.blkMs).perm (List.perm_middle (l₁ := [_, _, _]))).tail
            have A9 := (A8.perm (List.Perm.cons _ (List.Perm.cons _ (perm3 _ _ _ _)))).perm (List.perm_middle (l₁ := gtL G P (bgS m s q r) (tl ++ dn) b m txv (.slice (some ⟨g, 0, none⟩) r.length cw) tov)).symm
            have P1 : Hid (Gt G P R.s (tl ++ R.tl) b m (msC (.slice (some ⟨H, 0, none⟩) 1 1) R.ms :: cs) (w4.setCell ⟨G, 4, none⟩ (.int .i64 q.no))) := hid (by
              rw [HRr.out, goL_yes hbe]
              simp only [List.append_nil]
              exact ⟨_, _, _, A9⟩)
            clear A6 A7 A8 A9 HRr hbe
            go_wp2
            go_ret
            exact ⟨_, rfl, P1.out⟩
  · have e1 : goM m s = ⟨s, [], []⟩ := by unfold goM; rw [if_neg hu]
    rw [e1]
    obtain ⟨txv, wsv, tov, A⟩ := h
    have c4 : w.cell? ⟨G, 4, none⟩ = some (.int .i64 s.uw) := Gt.cell A 4
    have u0 : (s.uw == 0) = false := by simpa using hu
    have P1 : Hid (Gt G P s tl b m (msC (.slice none 0 0) [] :: cs) w) := hid (N _ _ _ ⟨txv, _, tov, A⟩)
    rw [List.append_nil]
    clear N e1 hno E I hu ht hn A
    generalize s.uw = uw at *
    go_enter Tryz.func55, Tryz.ntmps55
    go_wp2
    go_loop [2] (fun u => u = .slice none 0 0) (fun u => 0)
    case atStart => rfl
    case round =>
      subst hrel
      go_wp2
      go_ret
      exact ⟨_, rfl, P1.out⟩
end Go.Proofs.YtdhkdniddjnigaaGreatDoor

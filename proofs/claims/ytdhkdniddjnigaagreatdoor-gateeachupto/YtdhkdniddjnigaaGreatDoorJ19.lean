import Derived.Test.YtdhkdniddjnigaaGreatDoorJ18
import Derived.Test.YtdhkdniddjnigaaGreatDoorJ8
import Derived.Lib.SlBytesConst
import Derived.Test.YtdhkdniddjnigaaGreatDoorJ5
namespace Go.Proofs.YtdhkdniddjnigaaGreatDoor
open Go.RowKit
set_option linter.unusedVariables false

theorem refL_len {no e : Int} (h0 : 0 ≤ no) (h1 : no ≤ 4611686018427387904) (e0 : 0 ≤ e) (e1 : e ≤ 4611686018427387904) : (refL no e).length ≤ 300 := by
  have n1 := itoa_len h0 (by omega)
  have n2 := itoa_len e0 (by omega)
  have := joinW_le (Lib.itoa no :: [refuB, Lib.itoa e])
  unfold refL lnB
  rw [List.length_append]
  unfold lenJ at this
  simp only [List.map_cons, List.map_nil, List.sum_cons, List.sum_nil, refuB, List.length_cons, List.length_nil] at this ⊢
  omega
/-- How many wait, by the gate's cell. -/
def wsN (G : Nat) (w : World) : Nat := match w.cell? ⟨G, 5, none⟩ with
  | some (.slice _ n _) => n
  | _ => 0
theorem chkA_rng (k s t n m : Int) : 0 ≤ chkA k s t n m ∧ chkA k s t n m ≤ 1000 := by
  unfold chkA
  split
  · omega
  · unfold chkT chkR
    repeat' split
    all_goals omega
theorem bgE_rng (x : Px) (q : Wi) : 0 ≤ bgE x q ∧ bgE x q ≤ 1000 := by
  unfold bgE
  have := chkA_rng q.o.k (⟨q.o.nm.toArray⟩ : ByteArray).size (⟨q.o.tx.toArray⟩ : ByteArray).size (q.o.n : Int) (q.o.m : Int)
  unfold Wi.chk
  repeat' split
  all_goals omega
/-- A block of one message is a list of one. -/
theorem All.blkMs {H : Nat} {x : Ms} {cs : List Comp} {w : World} (h : All (blkC H x.cells 51 :: cs) w) : All (msC (.slice (some ⟨H, 0, none⟩) 1 1) [x] :: cs) w := by
  have hg : w.heap[H]? = some (.cells x.cells.toArray 51 (0, 0)) := h.1.2.1
  refine ⟨⟨rowC_good _ _ _ _ _, ?_, fun k hk => h.1.2.2 k (by simpa [rowC, blkC, Value.ownBlock, eq_comm] using hk)⟩, fun d hd k hk => h.2.1 d hd k (by simpa [rowC, blkC, Value.ownBlock, eq_comm] using hk), h.2.2⟩
  refine ⟨by simp [Ms.len], Or.inr ⟨H, 1, x.cells.toArray, rfl, Nat.zero_le _, hg, Nat.le_refl _, by unfold maxLen; omega, by simp [Ms.len], ?_⟩⟩
  simp
  exact List.take_of_length_le (by rw [x.len]; exact Nat.le_refl _)
theorem Wi.fn_req {P : Nat} {q : Wi} (h : q.ask = false) : q.fn P = .func (.func 163) #[reqV P q] #[] := by unfold Wi.fn; rw [h]; rfl
theorem Wi.fn_que {P : Nat} {q : Wi} (h : q.ask = true) : q.fn P = .func (.func 165) #[queV P q] #[] := by unfold Wi.fn; rw [h]; rfl
theorem goL_no {m : Int} {s : Gs} {w : Wi} {r : List Wi} (h : bgE s.x w ≠ 0) : goL m s (w :: r) = ⟨(goL m s r).s, (goL m s r).ms, refL w.no (bgE s.x w) ++ (goL m s r).tl⟩ := by
  show (if bgE s.x w = 0 then _ else _) = _
  rw [if_neg h]
theorem goL_yes {m : Int} {s : Gs} {w : Wi} {r : List Wi} (h : bgE s.x w = 0) : goL m s (w :: r) = ⟨bgS m s w r, [bgM s.x w s.n1 s.n2], []⟩ := by
  show (if bgE s.x w = 0 then _ else _) = _
  rw [if_pos h]
/-- A wish begins, whichever it is. -/
theorem beginW_any {P : Nat} {x : Px} {b m n1 n2 : Int} {cs : List Comp} {w w0 : World} (h : All (pxL P x b m n1 n2 ++ cs) w) (hT : Tab w0) (hin : inC w0 ∈ cs) (I : PxI x m n1 n2) (q : Wi) :
    (q.ask = false ∧ Calls Tryz.prog 163 #[reqV P q] w (BgPost P x b m n1 n2 q cs)) ∨ (q.ask = true ∧ Calls Tryz.prog 165 #[queV P q] w (BgPost P x b m n1 n2 q cs)) := by
  cases hq : q.ask with
  | false => exact Or.inl ⟨rfl, reqBegin_any h hT hin I q hq⟩
  | true => exact Or.inr ⟨rfl, queBegin_any h hT hin I q hq⟩
theorem run_store_func (P : Program) (w : World) (a : Addr) (m : Mode) (f : Fn) (x y : Array Value) : (store a (.func f x y) m).run P w = stored P w a (.func f x y) m := run_store P w a _ m rfl
attribute [local go_sem] run_store_func
set_option maxHeartbeats 3200000 in
set_option maxRecDepth 1000000 in
/-- What waits begins. -/
theorem goOn_gt {G P : Nat} {s : Gs} {tl : List UInt8} {b m : Int} {cs : List Comp} {w : World} (h : Gt G P s tl b m cs w) (E : Evs cs) (I : PxI s.x m s.n1 s.n2) (hno : ∀ q ∈ s.ws, 0 ≤ q.no ∧ q.no ≤ 4611686018427387904) (hn : s.ws.length ≤ 16) (ht : tl.length ≤ 50000000000000) :
    Calls Tryz.prog 55 #[.pointer (some ⟨G, 3, none⟩)] w fun e w' => ∃ v, e = .returned v ∧ Gt G P (goM m s).s (tl ++ (goM m s).tl) b m (msC v (goM m s).ms :: cs) w' := by
  have N : ∀ (s' : Gs) tl' w', Gt G P s' tl' b m cs w' → Gt G P s' tl' b m (msC (.slice none 0 0) [] :: cs) w' := fun s' tl' w' h => by
    obtain ⟨t, u, v, h⟩ := h
    exact ⟨t, u, v, ((All.addRow0 (e := 51) (size := 23) h).perm List.perm_middle.symm)⟩
  by_cases hu : s.uw = 0
  · have e1 : goM m s = goL m s s.ws := by unfold goM; rw [if_pos hu]
    rw [e1]
    obtain ⟨R, hR⟩ : ∃ R, Hid (R = goL m s s.ws) := ⟨_, hid rfl⟩
    rw [← hR.out]
    have A0 : Hid (Gt G P { s with ws := s.ws } (tl ++ []) b m cs w) := hid (by rw [List.append_nil]; exact h)
    have HN := hid N
    have HNO := hid hno
    have HE := hid E
    have HI := hid I
    have HU := hid hu
    have HT := hid ht
    have HL := hid hn
    clear h N e1 hno E I hu ht hn
    go_enter Tryz.func55, Tryz.ntmps55
    go_wp2
    go_loopw [2] (fun u wr => ∃ (r : List Wi) (dn : List UInt8), u = .slice none 0 0 ∧ Hid (R = ⟨(goL m s r).s, (goL m s r).ms, dn ++ (goL m s r).tl⟩) ∧ Hid (dn.length + r.length * 300 ≤ 4800) ∧ Hid (∀ q ∈ r, 0 ≤ q.no ∧ q.no ≤ 4611686018427387904) ∧ Hid (Gt G P { s with ws := r } (tl ++ dn) b m cs wr)) (fun u wr => wsN G wr)
    case atStart => exact ⟨s.ws, [], rfl, hid (by rw [hR.out]; rfl), hid (by have := HL.out; simp only [List.length_nil]; omega), HNO, A0⟩
    case round =>
      clear A0
      obtain ⟨r, dn, rfl, HRr, HD, HNR, h5⟩ := hrel
      obtain ⟨txv, wsv, tov, A⟩ := h5.out
      clear h5
      have c4 : wr.cell? ⟨G, 4, none⟩ = some (.int .i64 0) := by rw [Gt.cell A 4, ← HU.out]; rfl
      obtain ⟨aw, cw, rfl⟩ := owns_form A.tail.tail.tail.1.2.1
      have c5 : wr.cell? ⟨G, 5, none⟩ = some (.slice aw r.length cw) := Gt.cell A 5
      cases r with
      | nil =>
        have P1 : Hid (Gt G P R.s (tl ++ R.tl) b m (msC (.slice none 0 0) R.ms :: cs) wr) := hid (by
          rw [HRr.out]
          simp only [goL, List.append_nil]
          exact HN.out _ _ _ ⟨txv, _, tov, A⟩)
        clear A HRr HD HNR HN HNO HE HI HU HT HL hR
        simp only [List.length_nil] at c5
        go_wp2
        go_ret
        exact ⟨_, rfl, P1.out⟩
      | cons q r =>
        obtain ⟨g, eg, _, hc0⟩ := row_at A.tail.tail.tail.1.2.1 (k := 0) (u := .int .i64 q.no) rfl
        subst eg
        obtain ⟨g', eg', hgl, hc1⟩ := row_at A.tail.tail.tail.1.2.1 (k := 1) (u := q.fn P) rfl
        simp only [Option.some.injEq, Addr.mk.injEq, and_true] at eg'
        subst eg'
        obtain ⟨B, hB⟩ : ∃ B, Hid (B = wr.heap.size) := ⟨_, hid rfl⟩
        have A1 := A.addBlk [.int .i64 q.no, q.fn P] 136
        rw [← hB.out] at A1
        have A1 := A1.perm (List.perm_middle (l₁ := [_, _, _, _]))
        have D := hid (del_first (g := g) (c := cw) (n := (q :: r).length) (a := .int .i64 q.no) (b := q.fn P) (us := r.flatMap (Wi.cells P)) A1 (by have := HD.out; simp only [List.length_cons] at this ⊢; omega) (fun u hu => flat_one (fun x => Wi.one P x) r u hu))
        have n0 : (0 : Int) < ((q :: r).length : Int) := by simp only [List.length_cons]; omega
        have n0' : 0 < (q :: r).length := by simp
        have en : (q :: r).length - 1 = r.length := rfl
        rw [en] at D
        have m0 : Hid (wsN G wr = (q :: r).length) := hid (by unfold wsN; rw [c5])
        have k5 : Hid ((wr.alloc (.cells [.int .i64 q.no, q.fn P].toArray 136)).cell? ⟨G, 5, none⟩ = some (.slice (some ⟨g, 0, none⟩) (q :: r).length cw)) := hid (by rw [cell_at A1.tail.tail.1.2.1]; rfl)
        clear A A1
        obtain ⟨nf, bv, hfn, hnf⟩ : ∃ nf bv, q.fn P = .func (.func nf) #[bv] #[] ∧ Hid ((nf = 163 ∧ q.ask = false ∧ bv = reqV P q) ∨ (nf = 165 ∧ q.ask = true ∧ bv = queV P q)) := by
          cases hq : q.ask with
          | false => exact ⟨163, reqV P q, Wi.fn_req hq, hid (Or.inl ⟨rfl, rfl, rfl⟩)⟩
          | true => exact ⟨165, queV P q, Wi.fn_que hq, hid (Or.inr ⟨rfl, rfl, rfl⟩)⟩
        rw [hfn] at hc1 D k5
        have hfn := hid hfn
        generalize (q :: r).length = nq at *
        go_upto_region 3 with fail
        simp only [← hB.out]
        generalize wr.alloc (.cells #[.int .i64 q.no, .func (.func nf) #[bv] #[]] 136) = w1 at *
        have k5 := k5.out
        go_upto_region 4 with (go_at_call 88; refine D.out.mono ?_; rintro e w2 ⟨rfl, A2⟩; have A3 := A2.perm (List.perm_middle (l₁ := [_, _])); have f5 := free_at A3.1.2.1 5; have c5' : w2.cell? ⟨G, 5, none⟩ = some (.slice (some ⟨g, 0, none⟩) nq cw) := (cell_at A3.1.2.1 5).trans rfl; have A4 := hid (A3.setBlk 5 (.slice (some ⟨g, 0, none⟩) r.length cw)); clear A2 A3)
        clear D k5 c5 c4 hc0 hc1 f5 c5'
        generalize w2.setCell ⟨G, 5, none⟩ (.slice (some ⟨g, 0, none⟩) r.length cw) = w3 at *
        have A5 := hid (A4.out.perm (List.perm_append_comm_assoc [_, _, _, _, _] (pxL P s.x b m s.n1 s.n2) cs))
        have kB1 : w3.cell? ⟨B, 1, none⟩ = some (.func (.func nf) #[bv] #[]) := (cell_at A4.out.tail.tail.1.2.1 1).trans rfl
        obtain ⟨w0, hin0, hT0⟩ := HE.out.I
        clear A4
        rcases hnf.out with ⟨rfl, hq, rfl⟩ | ⟨rfl, hq, rfl⟩
        · have BC := hid (reqBegin_any A5.out hT0 (List.mem_append_right _ hin0) HI.out q hq)
          clear A5
          go_wp2_with fail
          refine BC.out.mono ?_
          rintro e w4 hp
          clear BC kB1
          rcases hp with ⟨hbe, rfl, A6⟩ | ⟨hbe, H, rfl, A6⟩
          · have hr := bgE_rng s.x q
            have heq : (bgE s.x q == 0) = false := by simpa using hbe
            have A7 := A6.perm (List.perm_append_comm_assoc [_, _, _, _, _] (pxL P s.x b m s.n1 s.n2) cs).symm
            have kB0 : w4.cell? ⟨B, 0, none⟩ = some (.int .i64 q.no) := (cell_at A7.tail.tail.1.2.1 0).trans rfl
            have A8 := A7.perm (List.Perm.cons _ (List.perm_middle (l₁ := [_, _, _])))
            have RC := hid (refuse_any A8 (fun W hW => HE.out.V W (show All (pxL P s.x b m s.n1 s.n2 ++ cs) W from hW.tail.tail.tail).app) (HNR.out q (by simp)).1 (HNR.out q (by simp)).2 hr.1 (by omega) (by have := HT.out; have := HD.out; rw [List.length_append]; omega))
            have HX : Hid (R = ⟨(goL m s r).s, (goL m s r).ms, (dn ++ refL q.no (bgE s.x q)) ++ (goL m s r).tl⟩) := hid (by rw [HRr.out, goL_no hbe, List.append_assoc])
            have HLn : Hid ((refL q.no (bgE s.x q)).length ≤ 300) := hid (refL_len (HNR.out q (by simp)).1 (HNR.out q (by simp)).2 hr.1 (by omega))
            clear A6 A7 A8 hr HRr hbe
            generalize bgE s.x q = er at *
            go_wp2_with (go_at_call 54; refine RC.out.mono ?_; rintro e w5 ⟨rfl, tov', A9⟩; have A10 := hid ((A9.perm (List.perm_middle (l₁ := [_, _, _]))).tail.perm (List.Perm.cons _ (List.perm_middle (l₁ := [_, _])))); clear A9)
            have m1 : wsN G w5 = r.length := by
              unfold wsN
              rw [cell_at A10.out.1.2.1]
              rfl
            go_roundw
            case rel => exact ⟨r, dn ++ refL q.no er, rfl, HX, hid (by have := HD.out; have := HLn.out; rw [List.length_append]; omega), hid (fun y hy => HNR.out y (by simp [hy])), hid ⟨txv, _, tov', by rw [← List.append_assoc]; exact A10.out⟩⟩
            case measure => rw [m1, m0.out]; omega
          · have A7 := A6.perm (List.Perm.cons _ (List.perm_append_comm_assoc [_, _, _, _, _] (pxL P (bgX s.x q s.n1 s.n2) b m (bg1 m s.n1 q) (bg2 m s.n2 q)) cs).symm)
            have kB0 : w4.cell? ⟨B, 0, none⟩ = some (.int .i64 q.no) := (cell_at A7.tail.tail.tail.1.2.1 0).trans rfl
            have c4' : w4.cell? ⟨G, 4, none⟩ = some (.int .i64 s.uw) := (cell_at A7.tail.1.2.1 4).trans rfl
            have f4 := free_at A7.tail.1.2.1 4
            have A8 := (((A7.swap.setBlk 4 (.int .i64 q.no)).swap.blkMs).perm (List.perm_middle (l₁ := [_, _, _]))).tail
            have A9 := (A8.perm (List.Perm.cons _ (List.Perm.cons _ (perm3 _ _ _ _)))).perm (List.perm_middle (l₁ := gtL G P (bgS m s q r) (tl ++ dn) b m txv (.slice (some ⟨g, 0, none⟩) r.length cw) tov)).symm
            have P1 : Hid (Gt G P R.s (tl ++ R.tl) b m (msC (.slice (some ⟨H, 0, none⟩) 1 1) R.ms :: cs) (w4.setCell ⟨G, 4, none⟩ (.int .i64 q.no))) := hid (by
              rw [HRr.out, goL_yes hbe]
              simp only [List.append_nil]
              exact ⟨_, _, _, A9⟩)
            clear A6 A7 A8 A9 HRr hbe
            go_wp2
            go_ret
            exact ⟨_, rfl, P1.out⟩
        · have BC := hid (queBegin_any A5.out hT0 (List.mem_append_right _ hin0) HI.out q hq)
          clear A5
          go_wp2_with fail
          refine BC.out.mono ?_
          rintro e w4 hp
          clear BC kB1
          rcases hp with ⟨hbe, rfl, A6⟩ | ⟨hbe, H, rfl, A6⟩
          · have hr := bgE_rng s.x q
            have heq : (bgE s.x q == 0) = false := by simpa using hbe
            have A7 := A6.perm (List.perm_append_comm_assoc [_, _, _, _, _] (pxL P s.x b m s.n1 s.n2) cs).symm
            have kB0 : w4.cell? ⟨B, 0, none⟩ = some (.int .i64 q.no) := (cell_at A7.tail.tail.1.2.1 0).trans rfl
            have A8 := A7.perm (List.Perm.cons _ (List.perm_middle (l₁ := [_, _, _])))
            have RC := hid (refuse_any A8 (fun W hW => HE.out.V W (show All (pxL P s.x b m s.n1 s.n2 ++ cs) W from hW.tail.tail.tail).app) (HNR.out q (by simp)).1 (HNR.out q (by simp)).2 hr.1 (by omega) (by have := HT.out; have := HD.out; rw [List.length_append]; omega))
            have HX : Hid (R = ⟨(goL m s r).s, (goL m s r).ms, (dn ++ refL q.no (bgE s.x q)) ++ (goL m s r).tl⟩) := hid (by rw [HRr.out, goL_no hbe, List.append_assoc])
            have HLn : Hid ((refL q.no (bgE s.x q)).length ≤ 300) := hid (refL_len (HNR.out q (by simp)).1 (HNR.out q (by simp)).2 hr.1 (by omega))
            clear A6 A7 A8 hr HRr hbe
            generalize bgE s.x q = er at *
            go_wp2_with (go_at_call 54; refine RC.out.mono ?_; rintro e w5 ⟨rfl, tov', A9⟩; have A10 := hid ((A9.perm (List.perm_middle (l₁ := [_, _, _]))).tail.perm (List.Perm.cons _ (List.perm_middle (l₁ := [_, _])))); clear A9)
            have m1 : wsN G w5 = r.length := by
              unfold wsN
              rw [cell_at A10.out.1.2.1]
              rfl
            go_roundw
            case rel => exact ⟨r, dn ++ refL q.no er, rfl, HX, hid (by have := HD.out; have := HLn.out; rw [List.length_append]; omega), hid (fun y hy => HNR.out y (by simp [hy])), hid ⟨txv, _, tov', by rw [← List.append_assoc]; exact A10.out⟩⟩
            case measure => rw [m1, m0.out]; omega
          · have A7 := A6.perm (List.Perm.cons _ (List.perm_append_comm_assoc [_, _, _, _, _] (pxL P (bgX s.x q s.n1 s.n2) b m (bg1 m s.n1 q) (bg2 m s.n2 q)) cs).symm)
            have kB0 : w4.cell? ⟨B, 0, none⟩ = some (.int .i64 q.no) := (cell_at A7.tail.tail.tail.1.2.1 0).trans rfl
            have c4' : w4.cell? ⟨G, 4, none⟩ = some (.int .i64 s.uw) := (cell_at A7.tail.1.2.1 4).trans rfl
            have f4 := free_at A7.tail.1.2.1 4
            have A8 := (((A7.swap.setBlk 4 (.int .i64 q.no)).swap.blkMs).perm (List.perm_middle (l₁ := [_, _, _]))).tail
            have A9 := (A8.perm (List.Perm.cons _ (List.Perm.cons _ (perm3 _ _ _ _)))).perm (List.perm_middle (l₁ := gtL G P (bgS m s q r) (tl ++ dn) b m txv (.slice (some ⟨g, 0, none⟩) r.length cw) tov)).symm
            have P1 : Hid (Gt G P R.s (tl ++ R.tl) b m (msC (.slice (some ⟨H, 0, none⟩) 1 1) R.ms :: cs) (w4.setCell ⟨G, 4, none⟩ (.int .i64 q.no))) := hid (by
              rw [HRr.out, goL_yes hbe]
              simp only [List.append_nil]
              exact ⟨_, _, _, A9⟩)
            clear A6 A7 A8 A9 HRr hbe
            go_wp2
            go_ret
            exact ⟨_, rfl, P1.out⟩
  · have e1 : goM m s = ⟨s, [], []⟩ := by unfold goM; rw [if_neg hu]
    rw [e1]
    obtain ⟨txv, wsv, tov, A⟩ := h
    have c4 : w.cell? ⟨G, 4, none⟩ = some (.int .i64 s.uw) := Gt.cell A 4
    have u0 : (s.uw == 0) = false := by simpa using hu
    have P1 : Hid (Gt G P s tl b m (msC (.slice none 0 0) [] :: cs) w) := hid (N _ _ _ ⟨txv, _, tov, A⟩)
    rw [List.append_nil]
    clear N e1 hno E I hu ht hn A
    generalize s.uw = uw at *
    go_enter Tryz.func55, Tryz.ntmps55
    go_wp2
    go_loop [2] (fun u => u = .slice none 0 0) (fun u => 0)
    case atStart => rfl
    case round =>
      subst hrel
      go_wp2
      go_ret
      exact ⟨_, rfl, P1.out⟩
end Go.Proofs.YtdhkdniddjnigaaGreatDoor

namespace Go.Proofs.YtdhkdniddjnigaaGreatDoor
open Go.RowKit
set_option linter.unusedVariables false

theorem chkR8_rng (o : OpR) : 0 ≤ chkR8 o ∧ chkR8 o ≤ 1000 := by
  unfold chkR8 chkO
  exact chkA_rng _ _ _ _ _
theorem readO_rng (l : Ws) : 0 ≤ (readO l).e ∧ (readO l).e ≤ 1000 := by
  unfold readO
  split
  · simp [RO.bad]
  · split
    · simp [RO.bad]
    · split
      · simp [RO.bad]
      · split
        · simp [RO.bad]
        · split
          · simp only [RO.bad]; exact chkR8_rng _
          · simp
theorem opRd_rng (l : Ws) : 0 ≤ (opRd l).1 ∧ (opRd l).1 ≤ 1000 := by
  have := readO_rng l
  unfold opRd
  split
  · exact this
  · split <;> simp
theorem readM_err {tx : List UInt8} {long : Bool} {e : Int} (h : readM tx long = .err e) : 0 < e ∧ e ≤ 1000 := by
  unfold readM at h
  split at h
  · simp only [Rd.err.injEq] at h; omega
  · split at h
    · rename_i h2
      simp only [Rd.err.injEq] at h
      have : (splitW tx).err ≤ 162 := by cases splitW tx <;> simp [Ans.err]
      omega
    · generalize (splitW tx).ws = ws at h
      cases ws with
      | nil => cases h
      | cons x r =>
        unfold wishR at h
        simp only at h
        split at h
        · unfold reqR at h
          have := opRd_rng r
          split at h
          · simp only [Rd.err.injEq] at h; omega
          · cases h
        · split at h
          · unfold queR at h
            cases r with
            | nil => simp only [Rd.err.injEq] at h; omega
            | cons y r =>
              have := opRd_rng r
              simp only at h
              cases hn : numW y with
              | none => rw [hn] at h; simp only [Rd.err.injEq] at h; omega
              | some q =>
                rw [hn] at h
                simp only at h
                split at h
                · simp only [Rd.err.injEq] at h; omega
                · cases h
          · simp only [Rd.err.injEq] at h; omega
theorem Gt.noMs {G P : Nat} {s : Gs} {tl : List UInt8} {b m : Int} {cs : List Comp} {w : World} (h : Gt G P s tl b m cs w) : Gt G P s tl b m (msC (.slice none 0 0) [] :: cs) w := by
  obtain ⟨t, u, v, h⟩ := h
  exact ⟨t, u, v, ((All.addRow0 (e := 51) (size := 23) h).perm List.perm_middle.symm)⟩
theorem eq_nilF (W : World) : (binOp .eql 131 .nilFunc .nilFunc).run Tryz.prog W = .ok (.bool true) W := by kernel_rfl
theorem eq_fnF (W : World) (f : Fn) (x y : Array Value) : (binOp .eql 131 (.func f x y) .nilFunc).run Tryz.prog W = .ok (.bool false) W := by kernel_rfl
set_option maxHeartbeats 3200000 in
set_option maxRecDepth 1000000 in
/-- A finished line is heard. -/
theorem hear_gt {G P : Nat} {s : Gs} {tl : List UInt8} {b m : Int} {cs : List Comp} {w : World} {txv wsv tov : Value} (A : All (gtL G P s tl b m txv wsv tov ++ cs) w) (hs : s.ok) (E : Evs cs) (I : PxI s.x m s.n1 s.n2) (hno0 : 0 ≤ s.no) (hno1 : s.no ≤ 4611686018427387904) (hno : ∀ q ∈ s.ws, 0 ≤ q.no ∧ q.no ≤ 4611686018427387904) (hn : s.ws.length ≤ 16) (ht : tl.length ≤ 50000000000000) :
    Calls Tryz.prog 33 #[.pointer (some ⟨G, 3, none⟩), .agg #[.int .i64 s.no, txv, .bool s.long]] w fun e w' => ∃ v, e = .returned v ∧ Gt G P (hearM m s).s (tl ++ (hearM m s).tl) b m (msC v (hearM m s).ms :: cs) w' := by
  obtain ⟨L, hL⟩ : ∃ L, Hid (L = w.heap.size) := ⟨_, hid rfl⟩
  have A1 := A.addBlk [.int .i64 s.no, txv, .bool s.long] 74
  rw [← hL.out] at A1
  have A1 := hid (A1.perm (List.perm_middle (l₁ := gtL G P s tl b m txv wsv tov)).symm)
  have RD := hid (read_gt A1.out hs (E.cons _))
  have e33 : hearM m s = (match readM s.tx s.long with
    | .err e => ⟨s, [], refL s.no e⟩
    | .none => ⟨s, [], []⟩
    | .wish a w o => if s.ws.length = 16 then ⟨s, [], refL s.no 231⟩ else goM m { s with ws := s.ws ++ [⟨s.no, a, w, o⟩] } : Go) := rfl
  rw [e33]
  clear e33
  have KL : Hid (∀ W, All (gtL G P s tl b m txv wsv tov ++ (blkC L [.int .i64 s.no, txv, .bool s.long] 74 :: cs)) W → W.cell? ⟨L, 0, none⟩ = some (.int .i64 s.no) ∧ W.cell? ⟨L, 1, none⟩ = some txv ∧ W.cell? ⟨L, 2, none⟩ = some (.bool s.long)) := hid (fun W hW => ⟨(cell_at (hW.app).1.2.1 0).trans rfl, (cell_at (hW.app).1.2.1 1).trans rfl, (cell_at (hW.app).1.2.1 2).trans rfl⟩)
  have RF : Hid (∀ er W, 0 ≤ er → er ≤ 1000 → All (gtL G P s tl b m txv wsv tov ++ (blkC L [.int .i64 s.no, txv, .bool s.long] 74 :: cs)) W → Calls Tryz.prog 54 #[.pointer (some ⟨G, 3, none⟩), .int .i64 s.no, .int .i64 er] W fun e w' => e = .returned (.tuple #[]) ∧ Gt G P s (tl ++ refL s.no er) b m (msC (.slice none 0 0) [] :: cs) w') := hid (fun er W he1 he2 hW => by
      refine (refuse_gt ⟨_, _, _, hW⟩ (E.cons _).V hno0 hno1 he1 (by omega) (by omega)).mono ?_
      rintro e w' ⟨rfl, hG⟩
      exact ⟨rfl, hG.drop.noMs⟩)
  cases hR : readM s.tx s.long with
  | err er =>
    have he := readM_err hR
    rw [hR] at RD
    unfold rdG at RD
    have he' : (er != 0) = true := by simp; omega
    have RF := hid (fun W => RF.out er W (by omega) (by omega))
    dsimp only
    clear A hs E I hno hn ht hR he hno0 hno1
    generalize blkC L [.int .i64 s.no, txv, .bool s.long] 74 = BL at *
    go_enter Tryz.func33, Tryz.ntmps33
    go_upto_region 1 with fail
    simp only [← hL.out]
    generalize w.alloc (.cells #[.int .i64 s.no, txv, .bool s.long] 74) = w1 at *
    obtain ⟨k0, k1, k2⟩ := KL.out _ A1.out
    go_wp2_with (first | (go_at_call 53; refine RD.out.mono ?_; rintro e w2 ⟨rfl, A2⟩; have A3 := hid A2; obtain ⟨kl, _, _⟩ := KL.out _ A2; clear A2) | (go_at_call 54; refine (RF.out _ A3.out).mono ?_; rintro e w3 ⟨rfl, hG⟩; have hG := hid hG))
    go_ret
    exact ⟨_, rfl, hG.out⟩
  | none =>
    rw [hR] at RD
    unfold rdG at RD
    have fe := eq_nilF
    have DN : Hid (∀ W, All (gtL G P s tl b m txv wsv tov ++ (blkC L [.int .i64 s.no, txv, .bool s.long] 74 :: cs)) W → Gt G P s (tl ++ []) b m (msC (.slice none 0 0) [] :: cs) W) := hid (fun W hW => by rw [List.append_nil]; exact (Gt.drop ⟨_, _, _, hW⟩).noMs)
    dsimp only
    clear A hs E I hno hn ht hR hno0 hno1 RF
    generalize blkC L [.int .i64 s.no, txv, .bool s.long] 74 = BL at *
    go_enter Tryz.func33, Tryz.ntmps33
    go_upto_region 1 with fail
    simp only [← hL.out]
    generalize w.alloc (.cells #[.int .i64 s.no, txv, .bool s.long] 74) = w1 at *
    obtain ⟨k0, k1, k2⟩ := KL.out _ A1.out
    go_wp2_with (go_at_call 53; refine RD.out.mono ?_; rintro e w2 ⟨rfl, A2⟩; have A3 := hid (DN.out _ A2); clear A2)
    go_ret
    exact ⟨_, rfl, by simpa using A3.out⟩
  | wish a who o =>
    rw [hR] at RD
    unfold rdG at RD
    dsimp only at RD ⊢
    obtain ⟨aw, cw, rfl⟩ := owns_form A.tail.tail.tail.1.2.1
    have K5 : Hid (∀ W, All (gtL G P s tl b m txv (.slice aw s.ws.length cw) tov ++ (blkC L [.int .i64 s.no, txv, .bool s.long] 74 :: cs)) W → W.cell? ⟨G, 5, none⟩ = some (.slice aw s.ws.length cw)) := hid (fun W hW => Gt.cell hW 5)
    obtain ⟨nf, bv, hfn⟩ : ∃ nf bv, (Wi.mk 0 a who o).fn P = .func (.func nf) #[bv] #[] := by
      cases a with
      | false => exact ⟨_, _, Wi.fn_req rfl⟩
      | true => exact ⟨_, _, Wi.fn_que rfl⟩
    rw [hfn] at RD
    have fe := fun W => eq_fnF W (.func nf) #[bv] #[]
    by_cases h16 : s.ws.length = 16
    · rw [if_pos h16]
      have hl : ((s.ws.length : Int) == 16) = true := by simp; omega
      have RF := hid (fun W => RF.out 231 W (by omega) (by omega))
      clear A hs E I hno hn ht hR hno0 hno1 h16
      generalize blkC L [.int .i64 s.no, txv, .bool s.long] 74 = BL at *
      go_enter Tryz.func33, Tryz.ntmps33
      go_upto_region 1 with fail
      simp only [← hL.out]
      generalize w.alloc (.cells #[.int .i64 s.no, txv, .bool s.long] 74) = w1 at *
      obtain ⟨k0, k1, k2⟩ := KL.out _ A1.out
      go_wp2_with (first | (go_at_call 53; refine RD.out.mono ?_; rintro e w2 ⟨rfl, A2⟩; have A3 := hid A2; obtain ⟨kl, _, _⟩ := KL.out _ A2; have k5 := K5.out _ A2; clear A2) | (go_at_call 54; refine (RF.out _ A3.out).mono ?_; rintro e w3 ⟨rfl, hG⟩; have hG := hid hG))
      go_ret
      exact ⟨_, rfl, hG.out⟩
    · rw [if_neg h16]
      have hl : ((s.ws.length : Int) == 16) = false := by simp; omega
      clear RF
      go_enter Tryz.func33, Tryz.ntmps33
      go_upto_region 1 with fail
      simp only [← hL.out]
      generalize w.alloc (.cells #[.int .i64 s.no, txv, .bool s.long] 74) = w1 at *
      obtain ⟨k0, k1, k2⟩ := KL.out _ A1.out
      go_upto_region 2 with (go_at_call 53; refine RD.out.mono ?_; rintro e w2 ⟨rfl, A2⟩; have A3 := hid A2; obtain ⟨kl, _, _⟩ := KL.out _ A2; have k5 := K5.out _ A2; clear A2)
      obtain ⟨i1, hi1, hz0, hz1, hz2⟩ := info_parts Tryz.info136
      have A4 := A3.out.perm (List.perm_middle (l₁ := [_, _, _]))
      obtain ⟨ao5, c5, w5, hr5, A5⟩ := appN (c := 1) (m := 1) (news := [.int .i64 s.no, .func (.func nf) #[bv] #[]]) Tryz.underlying75 hi1 hz0 hz1 hz2 rfl (by decide) (A4.drew.alloc (.cells [Value.int .i64 s.no, .func (.func nf) #[bv] #[]].toArray 136)) (some ⟨w2.heap.size, 0, none⟩) rfl
        (fun _ => ⟨_, rfl, fun j u hu => by
          rw [Addr.add_lit, Nat.zero_add]
          exact (cell_at (heap_alloc_new w2.drew _) j).trans (by simpa using hu)⟩)
        (fun u hu => by simp only [List.mem_cons, List.not_mem_nil, or_false] at hu; rcases hu with rfl | rfl <;> rfl) (by unfold maxLen; omega) (by omega)
      have R5 := hid hr5
      have hws : s.ws.flatMap (Wi.cells P) ++ [.int .i64 s.no, .func (.func nf) #[bv] #[]] = (s.ws ++ [Wi.mk s.no a who o]).flatMap (Wi.cells P) := by
        rw [List.flatMap_append]
        congr 1
        simp only [List.flatMap_cons, List.flatMap_nil, List.append_nil]
        rw [← hfn]
        rfl
      rw [hws] at A5
      have A6 := A5.swap
      have c5' : w5.cell? ⟨G, 5, none⟩ = some (.slice aw s.ws.length cw) := (cell_at A6.1.2.1 5).trans rfl
      have f5' := free_at A6.1.2.1 5
      have A7 := (A6.setBlk 5 (.slice ao5 (s.ws.length + 1) c5)).perm (List.Perm.cons _ (perm3 _ _ _ _))
      have hl1 : (s.ws ++ [Wi.mk s.no a who o]).length = s.ws.length + 1 := by simp
      have G7 : Hid (Gt G P { s with ws := s.ws ++ [Wi.mk s.no a who o] } tl b m (blkC L [.int .i64 s.no, txv, .bool s.long] 74 :: cs) (w5.setCell ⟨G, 5, none⟩ (.slice ao5 (s.ws.length + 1) c5))) := hid ⟨txv, .slice ao5 (s.ws.length + 1) c5, tov, by
        have e : gtL G P { s with ws := s.ws ++ [Wi.mk s.no a who o] } tl b m txv (.slice ao5 (s.ws.length + 1) c5) tov = blkC G (gtV { s with ws := s.ws ++ [Wi.mk s.no a who o] } P txv (.slice ao5 (s.ws.length + 1) c5) tov) 79 :: ownC 5 txv (cellsB s.tx) :: ownC 5 tov (cellsB tl) :: rowC 136 2 (.slice ao5 (s.ws.length + 1) c5) (s.ws.length + 1) ((s.ws ++ [Wi.mk s.no a who o]).flatMap (Wi.cells P)) :: pxL P s.x b m s.n1 s.n2 := by unfold gtL wsC; rw [hl1]
        rw [e]
        exact A7⟩
      have GC : Hid (∀ W, Gt G P { s with ws := s.ws ++ [Wi.mk s.no a who o] } tl b m (blkC L [.int .i64 s.no, txv, .bool s.long] 74 :: cs) W → Calls Tryz.prog 55 #[.pointer (some ⟨G, 3, none⟩)] W fun e w' => ∃ v, e = .returned v ∧ Gt G P (goM m { s with ws := s.ws ++ [Wi.mk s.no a who o] }).s (tl ++ (goM m { s with ws := s.ws ++ [Wi.mk s.no a who o] }).tl) b m (msC v (goM m { s with ws := s.ws ++ [Wi.mk s.no a who o] }).ms :: cs) w') := hid (fun W hW => by
        refine (goOn_gt hW (E.cons _) I (fun q hq => ?_) (by show (s.ws ++ [Wi.mk s.no a who o]).length ≤ 16; rw [hl1]; omega) ht).mono ?_
        · rcases List.mem_append.1 hq with hq | hq
          · exact hno q hq
          · simp only [List.mem_cons, List.not_mem_nil, or_false] at hq
            subst hq
            exact ⟨hno0, hno1⟩
        · rintro e w' ⟨v, rfl, hG⟩
          exact ⟨v, rfl, (hG.perm (List.Perm.swap _ _ _)).drop⟩)
      have hGl : G < w2.heap.size := A3.out.1.2.2 G (by simp [blkC])
      have hLl : L < w2.heap.size := (A3.out.app).1.2.2 L (by simp [blkC])
      clear A6 A7 A5 A4 hr5 A hs E I hno hn ht hR hno0 hno1 h16 hws hl1 hfn A3 A1 RD KL K5 fe
      go_region_law (refine step_append_run (by rfl) _ _ 75 (by rfl) _ _ _ _ (by rfl) (by rfl) R5.out ?_)
      all_goals
        go_wp2_with (go_at_call 55; refine (GC.out _ G7.out).mono ?_; rintro e w6 ⟨v, rfl, hG⟩; have hG := hid hG)
        go_ret
        exact ⟨_, rfl, hG.out⟩
end Go.Proofs.YtdhkdniddjnigaaGreatDoor

namespace Go.Proofs.YtdhkdniddjnigaaGreatDoor
open Go.RowKit
set_option linter.unusedVariables false

/-- What holds of a gate at each time. -/
structure GsI (s : Gs) (m K : Int) : Prop where
  ok : s.ok
  px : PxI s.x m s.n1 s.n2
  no0 : 0 ≤ s.no
  no1 : s.no ≤ K
  ws : ∀ q ∈ s.ws, 0 ≤ q.no ∧ q.no ≤ 4611686018427387904
  n : s.ws.length ≤ 16
theorem GsI.mono {s : Gs} {m K K' : Int} (h : GsI s m K) (hk : K ≤ K') : GsI s m K' := ⟨h.ok, h.px, h.no0, Int.le_trans h.no1 hk, h.ws, h.n⟩
theorem PxI.bg {x : Px} {m n1 n2 : Int} (h : PxI x m n1 n2) (q : Wi) (hb : bgE x q = 0) : PxI (bgX x q n1 n2) m (bg1 m n1 q) (bg2 m n2 q) := by
  obtain ⟨h1, h2, h3, h4, h5, h6, h7⟩ := h
  unfold bgE at hb
  unfold bgX bg1 bg2
  by_cases hc : q.chk = 0
  · rw [if_neg (by simp [hc])] at hb
    cases hq : q.ask with
    | false =>
      rw [hq] at hb
      simp only [Bool.false_eq_true, if_false] at hb ⊢
      have hn : x.rq.num ≠ 1099511627776 := by
        intro e
        rw [e] at hb
        split at hb <;> simp at hb
      refine ⟨h1, h2, ⟨?_, ?_⟩, h4, ⟨?_, ?_⟩, h6, h7⟩
      · show 0 ≤ x.rq.num + 1; omega
      · show x.rq.num + 1 ≤ _; omega
      · rw [Int.le_min]; omega
      · exact Int.min_le_right _ _
    | true =>
      rw [hq] at hb
      simp only [if_true] at hb ⊢
      have hn : x.qu.num ≠ 1099511627776 := by
        intro e
        rw [e] at hb
        repeat' split at hb
        all_goals first | (rename_i h; exact absurd rfl h) | omega
      refine ⟨h1, h2, h3, ⟨?_, ?_⟩, h5, ⟨?_, ?_⟩, h7⟩
      · show 0 ≤ x.qu.num + 1; omega
      · show x.qu.num + 1 ≤ _; omega
      · rw [Int.le_min]; omega
      · exact Int.min_le_right _ _
  · rw [if_pos hc] at hb; exact absurd hb hc
theorem goL_I {m K : Int} {s : Gs} (h : GsI s m K) : ∀ r : List Wi, (∀ q ∈ r, 0 ≤ q.no ∧ q.no ≤ 4611686018427387904) → r.length ≤ 16 → GsI (goL m s r).s m K ∧ (goL m s r).tl.length ≤ r.length * 300
  | [], _, _ => ⟨⟨h.ok, h.px, h.no0, h.no1, fun q hq => (by cases hq), (by show 0 ≤ 16; omega)⟩, by simp [goL]⟩
  | q :: r, hr, hl => by
    have hb := bgE_rng s.x q
    by_cases he : bgE s.x q = 0
    · rw [goL_yes he]
      refine ⟨⟨h.ok, h.px.bg q he, h.no0, h.no1, fun y hy => hr y (List.mem_cons_of_mem _ hy), by show r.length ≤ 16; simp only [List.length_cons] at hl; omega⟩, by simp⟩
    · rw [goL_no he]
      obtain ⟨h1, h2⟩ := goL_I h r (fun y hy => hr y (by simp [hy])) (by simp only [List.length_cons] at hl; omega)
      have := refL_len (hr q (by simp)).1 (hr q (by simp)).2 hb.1 (by omega)
      refine ⟨h1, ?_⟩
      simp only [List.length_append, List.length_cons]
      omega
theorem goM_I {m K : Int} {s : Gs} (h : GsI s m K) : GsI (goM m s).s m K ∧ (goM m s).tl.length ≤ 4800 := by
  unfold goM
  split
  · obtain ⟨h1, h2⟩ := goL_I h s.ws h.ws h.n
    exact ⟨h1, by have := h.n; omega⟩
  · exact ⟨h, by simp⟩
theorem hearM_I {m K : Int} {s : Gs} (h : GsI s m K) (hK : K ≤ 4611686018427387904) : GsI (hearM m s).s m K ∧ (hearM m s).tl.length ≤ 4800 := by
  have h1 := h.no1
  unfold hearM
  cases hr : readM s.tx s.long with
  | err e =>
    have := readM_err hr
    exact ⟨h, by have := refL_len (e := e) h.no0 (by omega) (by omega) (by omega); show (refL s.no e).length ≤ _; omega⟩
  | none => exact ⟨h, by simp⟩
  | wish a w o =>
    simp only
    split
    · exact ⟨h, by have := refL_len (e := 231) h.no0 (by omega) (by omega) (by omega); show (refL s.no 231).length ≤ _; omega⟩
    · rename_i h16
      refine goM_I (s := { s with ws := s.ws ++ [Wi.mk s.no a w o] }) ⟨h.ok, h.px, h.no0, h.no1, fun q hq => ?_, ?_⟩
      · rcases List.mem_append.1 hq with hq | hq
        · exact h.ws q hq
        · simp only [List.mem_cons, List.not_mem_nil, or_false] at hq
          subst hq
          exact ⟨h.no0, by show s.no ≤ _; omega⟩
      · have := h.n
        show (s.ws ++ [Wi.mk s.no a w o]).length ≤ 16
        rw [List.length_append, List.length_cons, List.length_nil]
        omega
theorem nxtM_I {m K : Int} {s : Gs} (h : GsI s m K) : GsI (nxtM s) m (K + 1) :=
  ⟨⟨fun _ => rfl, by simp [nxtM]⟩, h.px, by have := h.no0; show 0 ≤ s.no + 1; omega, by have := h.no1; show s.no + 1 ≤ _; omega, h.ws, h.n⟩
theorem addM_I {m K : Int} {s : Gs} (h : GsI s m K) (p : List UInt8) : GsI (addM s p) m K := by
  refine ⟨addM_ok h.ok p, ?_, ?_, ?_, ?_, ?_⟩ <;> (unfold addM; split <;> first | exact h.px | exact h.no0 | exact h.no1 | exact h.ws | exact h.n)
theorem addM_fields (s : Gs) (p : List UInt8) : (addM s p).no = s.no ∧ (addM s p).uw = s.uw ∧ (addM s p).ws = s.ws ∧ (addM s p).x = s.x ∧ (addM s p).n1 = s.n1 ∧ (addM s p).n2 = s.n2 := by
  unfold addM
  split <;> exact ⟨rfl, rfl, rfl, rfl, rfl, rfl⟩
theorem feedM_I {m : Int} : ∀ (l : List UInt8) {s : Gs} {K : Int}, GsI s m K → K + l.length ≤ 4611686018427387904 → GsI (feedM m s l).s m (K + l.length) ∧ (feedM m s l).tl.length ≤ l.length * 4800
  | [], s, K, h, hK => ⟨by simpa [feedM] using h, by simp [feedM]⟩
  | c :: r, s, K, h, hK => by
    simp only [List.length_cons] at hK ⊢
    unfold feedM
    split
    · obtain ⟨h1, h2⟩ := hearM_I h (by omega)
      obtain ⟨h3, h4⟩ := feedM_I r (nxtM_I h1) (by omega)
      refine ⟨?_, ?_⟩
      · have e : K + ((r.length + 1 : Nat) : Int) = K + 1 + (r.length : Int) := by omega
        rw [e]; exact h3
      · simp only [List.length_append]; omega
    · obtain ⟨h3, h4⟩ := feedM_I r (addM_I h [c]) (by omega)
      exact ⟨h3.mono (by omega), Nat.le_trans h4 (Nat.mul_le_mul_right _ (Nat.le_succ _))⟩
theorem feedM_line {m : Int} {s : Gs} {l : List UInt8} {i : Nat} (h : cutN l = some i) (hs : s.ok) : feedM m s l = ⟨(feedM m (nxtM (hearM m (addM s (l.take i))).s) (l.drop (i + 1))).s, (hearM m (addM s (l.take i))).ms ++ (feedM m (nxtM (hearM m (addM s (l.take i))).s) (l.drop (i + 1))).ms, (hearM m (addM s (l.take i))).tl ++ (feedM m (nxtM (hearM m (addM s (l.take i))).s) (l.drop (i + 1))).tl⟩ := by
  obtain ⟨h1, h2, h3⟩ := cutN_some h
  have e : l = l.take i ++ 10 :: l.drop (i + 1) := by rw [← h3, List.take_append_drop]
  conv => lhs; rw [e]
  rw [feedM_piece h2 hs]
  simp only [feedM, if_true]
theorem feedM_open {m : Int} {s : Gs} {l : List UInt8} (h : cutN l = none) (hs : s.ok) : feedM m s l = ⟨addM s l, [], []⟩ := by
  have := feedM_piece (m := m) (p := l) (r := []) (cutN_none h) hs
  rw [List.append_nil] at this
  rw [this]
  rfl
end Go.Proofs.YtdhkdniddjnigaaGreatDoor

namespace Go.Proofs.YtdhkdniddjnigaaGreatDoor
open Go.RowKit
set_option linter.unusedVariables false

theorem goL_ms {m : Int} {s : Gs} : ∀ r : List Wi, (goL m s r).ms.length ≤ 1
  | [] => by simp [goL]
  | q :: r => by
    by_cases he : bgE s.x q = 0
    · rw [goL_yes he]; simp
    · rw [goL_no he]; exact goL_ms r
theorem hearM_ms (m : Int) (s : Gs) : (hearM m s).ms.length ≤ 1 := by
  unfold hearM
  split
  · simp
  · simp
  · split
    · simp
    · unfold goM; split
      · exact goL_ms _
      · simp
theorem hearM_fields (m : Int) (s : Gs) : (hearM m s).s.no = s.no ∧ (hearM m s).s.tx = s.tx ∧ (hearM m s).s.long = s.long := by
  have key : ∀ (s : Gs) (r : List Wi), (goL m s r).s.no = s.no ∧ (goL m s r).s.tx = s.tx ∧ (goL m s r).s.long = s.long := by
    intro s r
    induction r with
    | nil => exact ⟨rfl, rfl, rfl⟩
    | cons q r ih =>
      by_cases he : bgE s.x q = 0
      · rw [goL_yes he]; exact ⟨rfl, rfl, rfl⟩
      · rw [goL_no he]; exact ih
  unfold hearM
  split
  · exact ⟨rfl, rfl, rfl⟩
  · exact ⟨rfl, rfl, rfl⟩
  · split
    · exact ⟨rfl, rfl, rfl⟩
    · unfold goM; split
      · exact key _ _
      · exact ⟨rfl, rfl, rfl⟩
/-- Messages laid behind messages. -/
theorem appMs {W : World} {sv : Value} {l1 l2 : List Ms} {ao2 : Option Addr} {n2 c2 : Nat} {cs : List Comp} (A : All (msC sv l1 :: msC (.slice ao2 n2 c2) l2 :: cs) W) (hb : (l1.length + l2.length) * 264 ≤ 140737488355328) :
    ∃ ao cap w', (Builtin.append_ #[59, 59] 59 #[sv, .slice ao2 n2 c2]).run Tryz.prog W = .ok (.slice ao (l1.length + l2.length) cap) w' ∧ All (msC (.slice ao (l1.length + l2.length) cap) (l1 ++ l2) :: msC (.slice ao2 n2 c2) l2 :: cs) w' := by
  obtain ⟨i1, hi1, hz0, hz1, hz2⟩ := info_parts Tryz.inf41
  have h2 : W.ownsRow 0 51 23 (.slice ao2 n2 c2) l2.length (l2.flatMap Ms.cells) := A.tail.1.2.1
  obtain ⟨rfl, _, _⟩ := row_cap h2
  obtain ⟨ao, cap, w', hr, A2⟩ := appN (c := c2) und49 hi1 hz0 hz1 hz2 rfl (by decide) A ao2 (news := l2.flatMap Ms.cells) (m := l2.length) (flat_len Ms.len l2)
    (fun h0 => by
      have hlen : 0 < (l2.flatMap Ms.cells).length := by rw [flat_len Ms.len]; omega
      obtain ⟨g, rfl, _, _⟩ := row_at h2 (k := 0) (List.getElem?_eq_getElem hlen)
      refine ⟨_, rfl, fun j u hu => ?_⟩
      obtain ⟨g', e, _, hc⟩ := row_at h2 hu
      simp only [Option.some.injEq, Addr.mk.injEq, and_true] at e
      subst e
      rw [Addr.add_lit, Nat.zero_add]
      exact hc) (flat_one (fun x => x.one) l2) (by unfold maxLen; omega) hb
  refine ⟨ao, cap, w', hr, ?_⟩
  have e1 : (l1 ++ l2).flatMap Ms.cells = l1.flatMap Ms.cells ++ l2.flatMap Ms.cells := List.flatMap_append
  have e2 : (l1 ++ l2).length = l1.length + l2.length := List.length_append
  unfold msC at A2 ⊢
  rw [e1, e2]
  exact A2
/-- The next line. -/
theorem Gt.next {G P : Nat} {s : Gs} {tl : List UInt8} {b m : Int} {cs : List Comp} {w : World} {txv wsv tov : Value} (A : All (gtL G P s tl b m txv wsv tov ++ cs) w) : Gt G P (nxtM s) tl b m cs (((w.setCell ⟨G, 0, none⟩ (.int .i64 (s.no + 1))).setCell ⟨G, 1, none⟩ (.slice none 0 0)).setCell ⟨G, 2, none⟩ (.bool false)) := by
  have A2 := (((A.setBlk 0 (.int .i64 (s.no + 1))).setBlk 1 (.slice none 0 0)).setBlk 2 (.bool false)).swap.tail
  exact ⟨.slice none 0 0, wsv, tov, (All.addNil (e := 5) A2).swap⟩
set_option maxHeartbeats 6400000 in
set_option maxRecDepth 1000000 in
/-- Bytes are fed. -/
theorem feed_gt {G P : Nat} {s : Gs} {tl : List UInt8} {b m : Int} {cs : List Comp} {w : World} {v : Value} {l : List UInt8} {K : Int} (h : Gt G P s tl b m cs w) (E : Evs cs) (I : GsI s m K) (hR : ∀ W, All cs W → Reads W v l) (hl : l.length ≤ 1000000000) (hK : K ≤ 2305843009213693952) (ht : tl.length ≤ 10000000000000) :
    Calls Tryz.prog 14 #[.pointer (some ⟨G, 0, none⟩), v] w fun e w' => ∃ v', e = .returned v' ∧ Gt G P (feedM m s l).s (tl ++ (feedM m s l).tl) b m (msC v' (feedM m s l).ms :: cs) w' := by
  obtain ⟨R, hRR⟩ : ∃ R, Hid (R = feedM m s l) := ⟨_, hid rfl⟩
  rw [← hRR.out]
  have G0 := hid h.noMs
  have HE := hid E
  have HI := hid I
  have HR := hid hR
  have HL := hid hl
  have HK := hid hK
  have HT := hid ht
  obtain ⟨ao, c, rfl⟩ := (hR w h.rest).form
  clear h E I hR hl hK ht
  go_enter Tryz.func14, Tryz.ntmps14
  go_wp2
  go_loopw [1, 5] (fun u1 u5 wr => ∃ (r : List UInt8) (s' : Gs) (dn : List UInt8) (ml : List Ms) (k : Nat) (ar : Option Addr) (cr : Nat) (am : Option Addr) (cm : Nat), u1 = .slice ar r.length cr ∧ u5 = .slice am ml.length cm ∧ Hid (∀ W, All cs W → Reads W (.slice ar r.length cr) r) ∧ Hid (R = ⟨(feedM m s' r).s, ml ++ (feedM m s' r).ms, dn ++ (feedM m s' r).tl⟩) ∧ Hid (GsI s' m (K + k) ∧ k + r.length ≤ l.length ∧ ml.length ≤ k ∧ dn.length ≤ k * 4800) ∧ Hid (Gt G P s' (tl ++ dn) b m (msC (.slice am ml.length cm) ml :: cs) wr)) (fun u1 u5 wr => match u1 with | .slice _ n _ => n | _ => 0)
  case atStart => exact ⟨l, s, [], [], 0, ao, c, none, 0, rfl, rfl, HR, hid (by rw [hRR.out]; rfl), hid ⟨HI.out.mono (by omega), by omega, Nat.zero_le _, Nat.zero_le _⟩, hid (by rw [List.append_nil]; exact G0.out)⟩
  case round =>
    clear G0 HR hRR
    obtain ⟨r, s', dn, ml, k, ar, cr, am, cm, rfl, rfl, HRd, HX, HB, HG⟩ := hrel
    obtain ⟨mx, hmx⟩ := HE.out.M _ (HG.out.rest.tail.alloc (.cells #[.int .u8 10] 5))
    have CC := hid (cut_any (c2 := 1) (b := wr.heap.size) (HRd.out _ (HG.out.rest.tail.alloc (.cells #[.int .u8 10] 5))) (by have := HB.out.2.1; have := HL.out; omega) (by rw [cell_at (heap_alloc_new wr _)]; rfl) hmx)
    have G2 := hid (HG.out.later (ba wr (.cells #[.int .u8 10] 5)))
    clear hmx HG
    go_wp2_with fail
    generalize wr.alloc (.cells #[.int .u8 10] 5) = w1 at *
    refine CC.out.mono ?_
    rintro e w2 ⟨p, r', rfl, hpr, q, rfl⟩
    have G2 := hid (G2.out.later (bdN w1 q))
    generalize w1.drewN q = w2 at *
    clear CC
    have HPR := hid hpr
    obtain ⟨ap, cp, rfl⟩ := (hpr w2 (HRd.out _ G2.out.rest.tail)).1.form
    obtain ⟨ar', cr', rfl⟩ := (hpr w2 (HRd.out _ G2.out.rest.tail)).2.form
    clear hpr
    have hcp : (cutP r).length ≤ r.length := by
      unfold cutP
      split
      · rw [List.length_take]; omega
      · omega
    have AC := hid (add_gt G2.out HB.out.1.ok (HPR.out w2 (HRd.out _ G2.out.rest.tail)).1 (by have := HB.out.2.1; have := HL.out; omega))
    cases hc : cutN r with
    | none =>
      have e1 : cutP r = r := by unfold cutP; rw [hc]
      have e2 : cutF r = false := by unfold cutF; rw [hc]; rfl
      rw [e2]
      have P1 : Hid (∀ w3, Gt G P (addM s' (cutP r)) (tl ++ dn) b m (msC (.slice am ml.length cm) ml :: cs) w3 → Gt G P R.s (tl ++ R.tl) b m (msC (.slice am ml.length cm) R.ms :: cs) w3) := hid (fun w3 h => by
        rw [HX.out, feedM_open hc HB.out.1.ok]
        simp only [List.append_nil]
        rw [e1] at h
        exact h)
      clear HX HPR G2 HRd e1 e2 hc hcp
      generalize cutP r = pc at *
      generalize cutR r = rc at *
      generalize pc.length = np at *
      generalize rc.length = nr at *
      go_wp2_with (go_at_call 32; refine AC.out.mono ?_; rintro e w3 ⟨rfl, G3⟩; have G3 := hid (P1.out _ G3))
      go_ret
      exact ⟨_, rfl, G3.out⟩
    | some i =>
      obtain ⟨hi1, hi2, hi3⟩ := cutN_some hc
      have e1 : cutP r = r.take i := by unfold cutP; rw [hc]
      have e2 : cutF r = true := by unfold cutF; rw [hc]; rfl
      have e3 : cutR r = r.drop (i + 1) := by unfold cutR; rw [hc]
      rw [e2]
      have hlt : (cutR r).length < r.length := by rw [e3, List.length_drop]; omega
      have HPR2 : Hid (∀ W, All cs W → Reads W (.slice ar' (cutR r).length cr') (cutR r)) := hid (fun W hW => (HPR.out W (HRd.out W hW)).2)
      have IX := hid (addM_I HB.out.1 (cutP r))
      have HX2 : Hid (R = ⟨(feedM m (nxtM (hearM m (addM s' (cutP r))).s) (cutR r)).s, ml ++ ((hearM m (addM s' (cutP r))).ms ++ (feedM m (nxtM (hearM m (addM s' (cutP r))).s) (cutR r)).ms), dn ++ ((hearM m (addM s' (cutP r))).tl ++ (feedM m (nxtM (hearM m (addM s' (cutP r))).s) (cutR r)).tl)⟩) := hid (by rw [HX.out, feedM_line hc HB.out.1.ok, e1, e3])
      clear HX HPR HRd e1 e2 e3 hc hi1 hi2 hi3 G2 hcp
      generalize addM s' (cutP r) = s2 at *
      generalize cutP r = pc at *
      generalize cutR r = rc at *
      generalize pc.length = np at *
      go_upto_region 6 with (go_at_call 32; refine AC.out.mono ?_; rintro e w3 ⟨rfl, G3⟩; have G3 := hid G3)
      obtain ⟨txv, wsv, tov, A3⟩ := G3.out
      have d0 : w3.cell? ⟨G, 0, none⟩ = some (.int .i64 s2.no) := Gt.cell A3 0
      have d1 : w3.cell? ⟨G, 1, none⟩ = some txv := Gt.cell A3 1
      have d2 : w3.cell? ⟨G, 2, none⟩ = some (.bool s2.long) := Gt.cell A3 2
      have HC := hid (hear_gt A3.drew IX.out.ok (HE.out.cons _) IX.out.px IX.out.no0 (by have := IX.out.no1; have := HK.out; have := HB.out.2.1; have := HL.out; omega) IX.out.ws IX.out.n (by have := HT.out; have := HB.out.2; have := HL.out; rw [List.length_append]; omega))
      clear A3 G3 AC
      have AP : Hid (∀ v2 W, Gt G P (hearM m s2).s (tl ++ dn ++ (hearM m s2).tl) b m (msC v2 (hearM m s2).ms :: msC (.slice am ml.length cm) ml :: cs) W → ∃ a2 n2 c2, v2 = .slice a2 n2 c2 ∧ ∃ ao cap w', (Builtin.append_ #[59, 59] 59 #[.slice am ml.length cm, .slice a2 n2 c2]).run Tryz.prog W = .ok (.slice ao (ml.length + (hearM m s2).ms.length) cap) w' ∧ Gt G P (hearM m s2).s (tl ++ (dn ++ (hearM m s2).tl)) b m (msC (.slice ao (ml.length + (hearM m s2).ms.length) cap) (ml ++ (hearM m s2).ms) :: cs) w') := hid (fun v2 W hG => by
        obtain ⟨txv', wsv', tov', A⟩ := hG
        have A2 := (A.perm (List.perm_middle (l₁ := gtL G P (hearM m s2).s (tl ++ dn ++ (hearM m s2).tl) b m txv' wsv' tov'))).perm (List.Perm.cons _ (List.perm_middle (l₁ := gtL G P (hearM m s2).s (tl ++ dn ++ (hearM m s2).tl) b m txv' wsv' tov')))
        obtain ⟨a2, c2, rfl⟩ := owns_form A2.1.2.1
        have h1 := hearM_ms m s2
        obtain ⟨ao, cap, w', hr, A3⟩ := appMs A2.swap (by have := HB.out.2; have := HL.out; omega)
        refine ⟨a2, _, c2, rfl, ao, cap, w', hr, txv', wsv', tov', ?_⟩
        rw [← List.append_assoc]
        exact (A3.swap.tail).perm List.perm_middle.symm)
      go_region_law (first | (refine step_append_run (by rfl) _ _ 59 (by rfl) _ _ _ _ (by rfl) (by rfl) hr.out ?_) | (go_simp; go_at_call 33; refine HC.out.mono ?_; rintro e w4 ⟨v2, rfl, G4⟩; obtain ⟨a2, n2, c2, rfl, ao, cap, w5, hr, G5⟩ := AP.out v2 w4 G4; have hr := hid hr; have G5 := hid G5; clear G4))
      obtain ⟨txv2, wsv2, tov2, A6⟩ := G5.out
      obtain ⟨hI3, hT3⟩ := hearM_I IX.out (by have := HK.out; have := HB.out.2.1; have := HL.out; omega)
      have h1 := hearM_ms m s2
      have N := hid (Gt.next A6)
      have g0 : w5.cell? ⟨G, 0, none⟩ = some (.int .i64 (hearM m s2).s.no) := Gt.cell A6 0
      have g1 : w5.cell? ⟨G, 1, none⟩ = some txv2 := Gt.cell A6 1
      have g2 : w5.cell? ⟨G, 2, none⟩ = some (.bool (hearM m s2).s.long) := Gt.cell A6 2
      have f0 := Gt.free A6 0
      have f1 := Gt.free A6 1
      have f2 := Gt.free A6 2
      have wn : IntKind.i64.wrap ((hearM m s2).s.no + 1) = (hearM m s2).s.no + 1 := by
        have := hI3.no0; have := hI3.no1; have := HK.out; have := HB.out.2.1; have := HL.out
        rw [IntKind.wrap_i64]; omega
      have IN := hid (nxtM_I hI3)
      have HX3 : Hid (R = ⟨(feedM m (nxtM (hearM m s2).s) rc).s, (ml ++ (hearM m s2).ms) ++ (feedM m (nxtM (hearM m s2).s) rc).ms, (dn ++ (hearM m s2).tl) ++ (feedM m (nxtM (hearM m s2).s) rc).tl⟩) := hid (by rw [HX2.out, List.append_assoc, List.append_assoc])
      have HB3 : Hid (k + 1 + rc.length ≤ l.length ∧ (ml ++ (hearM m s2).ms).length ≤ k + 1 ∧ (dn ++ (hearM m s2).tl).length ≤ (k + 1) * 4800) := hid (by
        have := HB.out.2
        rw [List.length_append, List.length_append]
        omega)
      have hml : ml.length + (hearM m s2).ms.length = (ml ++ (hearM m s2).ms).length := List.length_append.symm
      simp only [hml] at N ⊢
      clear HX2 HC hr G5 A6 hI3 hT3 h1 AP IX hml
      generalize (hearM m s2).ms = ms2 at *
      generalize (hearM m s2).tl = tl2 at *
      generalize (hearM m s2).s = s3 at *
      generalize hml : (ml ++ ms2).length = nml at *
      have hml := hid hml
      go_wp2
      go_roundw
      case rel => exact ⟨rc, nxtM s3, dn ++ tl2, ml ++ ms2, k + 1, ar', cr', ao, cap, rfl, by rw [hml.out], HPR2, HX3, hid ⟨IN.out.mono (by omega), HB3.out.1, by rw [hml.out]; exact HB3.out.2.1, HB3.out.2.2⟩, hid (by rw [hml.out]; exact N.out)⟩
      case measure => exact hlt
end Go.Proofs.YtdhkdniddjnigaaGreatDoor

namespace Go.Proofs.YtdhkdniddjnigaaGreatDoor
open Go.RowKit
set_option linter.unusedVariables false

/-- A gate that has been told nothing. -/
def gs0 (x : Px) (n1 n2 : Int) : Gs := ⟨1, [], false, 0, [], x, n1, n2⟩
theorem config_any {w : World} : Calls Tryz.prog 13 #[] w fun e w' => e = .returned (cfgV 3 2 2 3 16 64 4 4 16 4) ∧ w' = w.alloc (cfgB 3 2 2 3 16 64 4 4 16 4) := by
  go_enter Tryz.func13, Tryz.ntmps13
  go_wp2
  refine bodyPost_ret (v := cfgV 3 2 2 3 16 64 4 4 16 4) (by simp only [results, Tryz.f13]; go_simp) rfl ?_
  exact ⟨rfl, rfl⟩
set_option maxHeartbeats 1600000 in
set_option maxRecDepth 1000000 in
theorem New_gt {cs : List Comp} {w : World} (h : All cs w) (a0 a1 a2 a3 a4 a5 a6 a7 a8 a9 id : Int) (hc : cfgOK a0 a1 a2 a3 a4 a5 a6 a7 a8 a9 = true) (hi : 0 ≤ id) (hi2 : id < a1) :
    Calls Tryz.prog 7 #[cfgV a0 a1 a2 a3 a4 a5 a6 a7 a8 a9, .int .i64 id] w fun e w' => ∃ G P p1 p2, e = .returned (.tuple #[.pointer (some ⟨G, 0, none⟩), .int .i64 0]) ∧ Gt G P (gs0 (px0 a0 id p1 p2) a6 a6) [] a6 a5 cs w' := by
  have C := hid (new_ok (h.alloc (cfgB a0 a1 a2 a3 a4 a5 a6 a7 a8 a9)) a0 a1 a2 a3 a4 a5 a6 a7 a8 a9 id hc hi hi2)
  have MK : Hid (∀ P p1 p2 W, All (pxL P (px0 a0 id p1 p2) a6 a5 a6 a6 ++ cs) W → Gt W.heap.size P (gs0 (px0 a0 id p1 p2) a6 a6) [] a6 a5 cs (W.alloc (.cells #[.int .i64 1, .slice none 0 0, .bool false, .pointer (some ⟨P, 0, none⟩), .int .i64 0, .slice none 0 0, .slice none 0 0] 79))) := hid (fun P p1 p2 W hW => by
    have A := (All.addNil (e := 5) (All.addNil (e := 5) (All.addRow0 (e := 136) (size := 2) hW))).addBlk [.int .i64 1, .slice none 0 0, .bool false, .pointer (some ⟨P, 0, none⟩), .int .i64 0, .slice none 0 0, .slice none 0 0] 79
    exact ⟨.slice none 0 0, .slice none 0 0, .slice none 0 0, A⟩)
  clear h hc hi hi2
  go_enter Tryz.func7, Tryz.ntmps7
  go_wp2_with (go_at_call 21; refine C.out.mono ?_; rintro e w2 ⟨P, p1, p2, rfl, A2⟩; have G2 := hid (MK.out P p1 p2 w2 A2); clear A2)
  go_ret2
  exact ⟨_, P, p1, p2, rfl, G2.out⟩
set_option maxRecDepth 1000000 in
theorem Out_gt {G P : Nat} {s : Gs} {tl : List UInt8} {b m : Int} {cs : List Comp} {w : World} (h : Gt G P s tl b m cs w) :
    Calls Tryz.prog 16 #[.pointer (some ⟨G, 0, none⟩)] w fun e w' => ∃ v, e = .returned v ∧ Gt G P s [] b m (ownC 5 v (cellsB tl) :: cs) w' := by
  obtain ⟨txv, wsv, tov, A⟩ := h
  obtain ⟨ao, c, rfl⟩ := owns_form A.tail.tail.1.2.1
  have c6 : w.cell? ⟨G, 6, none⟩ = some (.slice ao (cellsB tl).length c) := Gt.cell A 6
  have f6 := Gt.free A 6
  have A2 := (A.setBlk 6 (.slice none 0 0)).perm (List.perm_middle (l₁ := [_, _]))
  have A3 := (A2.perm (List.Perm.cons _ (List.Perm.swap _ _ _)))
  have N : Hid (Gt G P s [] b m (ownC 5 (.slice ao (cellsB tl).length c) (cellsB tl) :: cs) (w.setCell ⟨G, 6, none⟩ (.slice none 0 0))) := hid (by
    have A4 := ((All.addNil (e := 5) A2).perm (perm4 _ _ _ _ _).symm)
    refine ⟨txv, wsv, .slice none 0 0, ?_⟩
    have A5 : All (ownC 5 (.slice ao (cellsB tl).length c) (cellsB tl) :: (gtL G P s [] b m txv wsv (.slice none 0 0) ++ cs)) (w.setCell ⟨G, 6, none⟩ (.slice none 0 0)) := by
      have B0 := All.addNil (e := 5) A2
      -- nil :: told :: blk :: tx :: ws :: rest
      have B1 := B0.swap
      -- told :: nil :: blk :: tx :: ws :: rest
      exact B1.perm (List.Perm.cons _ (perm3 _ _ _ _))
    exact A5.perm (List.perm_middle (l₁ := gtL G P s [] b m txv wsv (.slice none 0 0))).symm)
  clear A A2 A3
  generalize (cellsB tl).length = n at *
  go_enter Tryz.func16, Tryz.ntmps16
  go_wp2
  go_ret
  exact ⟨_, rfl, N.out⟩
/-- What waits: wishes, and bytes. -/
def wtN (s : Gs) : Int := if s.long then 8193 else (s.tx.length : Int)
set_option maxRecDepth 1000000 in
theorem Waits_gt {G P : Nat} {s : Gs} {tl : List UInt8} {b m : Int} {cs : List Comp} {w : World} (h : Gt G P s tl b m cs w) :
    Calls Tryz.prog 17 #[.pointer (some ⟨G, 0, none⟩)] w fun e w' => e = .returned (.tuple #[.int .i64 (s.ws.length : Int), .int .i64 (wtN s)]) ∧ Gt G P s tl b m cs w' := by
  obtain ⟨txv, wsv, tov, A⟩ := h
  obtain ⟨aw, cw, rfl⟩ := owns_form A.tail.tail.tail.1.2.1
  obtain ⟨ax, cx, rfl⟩ := owns_form A.tail.1.2.1
  rw [cellsB_length] at A
  have c1 : w.cell? ⟨G, 1, none⟩ = some (.slice ax s.tx.length cx) := Gt.cell A 1
  have c2 : w.cell? ⟨G, 2, none⟩ = some (.bool s.long) := Gt.cell A 2
  have c5 : w.cell? ⟨G, 5, none⟩ = some (.slice aw s.ws.length cw) := Gt.cell A 5
  have C34 : Hid (Calls Tryz.prog 34 #[.pointer (some ⟨G, 0, none⟩)] w.drew fun e w' => e = .returned (.int .i64 (wtN s)) ∧ w' = w.drew) := hid (by
    have d1 : w.drew.cell? ⟨G, 1, none⟩ = some (.slice ax s.tx.length cx) := c1
    have d2 : w.drew.cell? ⟨G, 2, none⟩ = some (.bool s.long) := c2
    generalize w.drew = w1 at *
    unfold wtN
    cases hl : s.long with
    | true =>
      rw [hl] at d2
      clear A
      go_enter Tryz.func34, Tryz.ntmps34
      go_wp2
      go_ret
      exact ⟨by simp, rfl⟩
    | false =>
      rw [hl] at d2
      clear A
      generalize s.tx.length = n at *
      go_enter Tryz.func34, Tryz.ntmps34
      go_wp2
      go_ret
      exact ⟨by simp, rfl⟩)
  have N : Hid (Gt G P s tl b m cs w.drew) := hid ⟨_, _, _, A.drew⟩
  have c5' : w.drew.cell? ⟨G, 5, none⟩ = some (.slice aw s.ws.length cw) := c5
  clear A c1 c2
  generalize s.ws.length = n at *
  go_enter Tryz.func17, Tryz.ntmps17
  go_wp2_with fail
  go_region_law (go_simp; go_at_call 34; refine C34.out.mono ?_; rintro e w2 ⟨rfl, rfl⟩)
  all_goals
    go_wp2
    go_ret2
    exact ⟨rfl, N.out⟩
end Go.Proofs.YtdhkdniddjnigaaGreatDoor

namespace Go.Proofs.YtdhkdniddjnigaaGreatDoor
open Go.RowKit
set_option linter.unusedVariables false

/-- Bytes that are read, as a part. -/
def rdC (v : Value) (l : List UInt8) : Comp := ⟨fun w => Reads w v l, v.ownBlock.toList⟩
theorem rdC_good (v : Value) (l : List UInt8) : (rdC v l).Good := fun w w' h hs hb => Reads.kept h hs.size (fun k _ hk => hb k (by simp [rdC, hk]))
/-- Constant bytes, laid. -/
theorem All.addConst {cs : List Comp} {w : World} (h : All cs w) (l : List UInt8) (fr : Nat × Nat) : All (rdC (.slice (some ⟨w.heap.size, 0, none⟩) l.length l.length) l :: cs) (w.alloc (.cells (cellsB l).toArray 5 fr)) := by
  refine h.add (Fr.below (ba w _)) (rdC_good _ _) ⟨_, _, rfl, Nat.le_refl _, Or.inr ⟨_, 0, rfl, by simp, fun j u hu => ?_⟩⟩ (fun k hk => ?_)
  · rw [Nat.zero_add, cell_at (heap_alloc_new w _)]
    simpa using hu
  · have : k = w.heap.size := by simpa [rdC, Value.ownBlock, eq_comm] using hk
    subst this
    exact ⟨Nat.le_refl _, by simp⟩
theorem rd_rdC {v : Value} {l : List UInt8} {cs : List Comp} {w : World} (h : All (rdC v l :: cs) w) : Reads w v l := h.1.2.1
def awB : List UInt8 := [115, 117, 98, 109, 105, 116, 32, 108, 105, 115, 116, 10, 104, 101, 108, 108, 111, 10]
set_option maxRecDepth 1000000 in
theorem aw_tl (p1 p2 : Nat) : (feedM 64 (gs0 (px0 3 1 p1 p2) 4 4) awB).tl = [50, 32, 114, 101, 102, 117, 115, 101, 100, 32, 50, 51, 48, 10] := by kernel_rfl
set_option maxRecDepth 1000000 in
theorem aw_ms1 (p1 p2 : Nat) : (feedM 64 (gs0 (px0 3 1 p1 p2) 4 4) awB).ms = [(feedM 64 (gs0 (px0 3 1 p1 p2) 4 4) awB).ms.getD 0 zM] := by kernel_rfl
set_option maxRecDepth 1000000 in
theorem aw_ms2 (p1 p2 : Nat) : ((feedM 64 (gs0 (px0 3 1 p1 p2) 4 4) awB).ms.getD 0 zM).k = 1 := by kernel_rfl
set_option maxRecDepth 1000000 in
theorem aw_ms3 (p1 p2 : Nat) : ((feedM 64 (gs0 (px0 3 1 p1 p2) 4 4) awB).ms.getD 0 zM).f = 1 := by kernel_rfl
theorem gs0_I {a0 id m n : Int} {p1 p2 : Nat} (h : a0 = 3 ∨ a0 = 5 ∨ a0 = 7) (h1 : 1 ≤ n) (h2 : n ≤ m) (h3 : m ≤ 1024) : GsI (gs0 (px0 a0 id p1 p2) n n) m 1 :=
  ⟨⟨fun h => (by cases h), by simp [gs0]⟩, ⟨h, Int.le_refl _, ⟨Int.le_refl _, by show (0 : Int) ≤ _; decide⟩, ⟨Int.le_refl _, by show (0 : Int) ≤ _; decide⟩, ⟨h1, h2⟩, ⟨h1, h2⟩, h3⟩, by show (0 : Int) ≤ 1; decide, Int.le_refl _, fun q hq => (by cases hq), by simp [gs0]⟩
set_option maxHeartbeats 3200000 in
set_option maxRecDepth 1000000 in
/-- A gate takes a line, says its request and tells why another line is refused. -/
theorem awake_any {cs : List Comp} {w : World} (A : All cs w) (E : Evs cs) : Calls Tryz.prog 6 #[] w fun e w' => e = .returned (.bool true) ∧ All cs w' := by
  have HE := hid E
  have C7 : Hid (∀ W, All cs W → Calls Tryz.prog 7 #[cfgV 3 2 2 3 16 64 4 4 16 4, .int .i64 1] W fun e w' => ∃ G P p1 p2, e = .returned (.tuple #[.pointer (some ⟨G, 0, none⟩), .int .i64 0]) ∧ Gt G P (gs0 (px0 3 1 p1 p2) 4 4) [] 4 64 cs w') := hid (fun W hW => New_gt hW 3 2 2 3 16 64 4 4 16 4 1 (by decide +kernel) (by decide) (by decide))
  have C13 : Hid (∀ W : World, Calls Tryz.prog 13 #[] W fun e w' => e = .returned (cfgV 3 2 2 3 16 64 4 4 16 4) ∧ w' = W.alloc (cfgB 3 2 2 3 16 64 4 4 16 4)) := hid (fun W => config_any)
  have A0 := hid A
  clear A E
  go_enter Tryz.func6, Tryz.ntmps6
  go_wp2_with fail
  refine (C13.out _).mono ?_
  rintro e w1 ⟨rfl, hw1⟩
  have A1 : Hid (All cs w1) := hid (by rw [hw1]; exact A0.out.alloc _)
  clear hw1 A0 C13
  go_wp2_with fail
  refine (C7.out _ A1.out).mono ?_
  rintro e w2 ⟨G, P, p1, p2, rfl, hG⟩
  have G2 := hid hG
  clear hG A1 C7
  go_upto_region 4 with fail
  have G3 : Hid (Gt G P (gs0 (px0 3 1 p1 p2) 4 4) [] 4 64 (rdC (.slice (some ⟨w2.heap.size, 0, none⟩) 18 18) awB :: cs) (w2.alloc (.cells (cellsB awB).toArray 5 (18, 19)))) := hid (by
    obtain ⟨t, u, v, hA⟩ := G2.out
    exact ⟨t, u, v, (All.addConst hA awB (18, 19)).perm List.perm_middle.symm⟩)
  have FC := hid (feed_gt G3.out (HE.out.cons _) (gs0_I (Or.inl rfl) (by decide) (by decide) (by decide)) (fun W hW => rd_rdC hW) (by decide) (by decide) (by decide))
  have e1 := aw_ms1 p1 p2
  have e2 := aw_ms2 p1 p2
  have e3 := aw_ms3 p1 p2
  rw [aw_tl, e1, List.nil_append] at FC
  generalize (feedM 64 (gs0 (px0 3 1 p1 p2) 4 4) awB).ms.getD 0 zM = xm at *
  generalize (feedM 64 (gs0 (px0 3 1 p1 p2) 4 4) awB).s = s3 at *
  clear e1 G2 G3
  have eaw : (cellsB awB).toArray = #[.int .u8 115, .int .u8 117, .int .u8 98, .int .u8 109, .int .u8 105, .int .u8 116, .int .u8 32, .int .u8 108, .int .u8 105, .int .u8 115, .int .u8 116, .int .u8 10, .int .u8 104, .int .u8 101, .int .u8 108, .int .u8 108, .int .u8 111, .int .u8 10] := rfl
  rw [eaw] at FC
  have cvid := fun (w : World) (C : Array Value) (n c : Nat) => Lib.run_convert_bytes_const (P := Tryz.prog) w 40 5 C n c Tryz.underlying40 Tryz.underlying5
  go_upto_region 5 with (go_at_call 14; refine FC.out.mono ?_; rintro e w4 ⟨v', rfl, hG⟩; have G4 := hid hG; clear hG)
  obtain ⟨av, cv, rfl⟩ : ∃ av cv, v' = .slice av 1 cv := by
    have hM : w4.ownsRow 0 51 23 v' 1 ([xm].flatMap Ms.cells) := G4.out.rest.1.2.1
    exact owns_form hM
  obtain ⟨g, rfl, hg, m0⟩ := row_at (w := w4) (ao := av) (k := 0) (u := .int .i64 xm.k) G4.out.rest.1.2.1 rfl
  obtain ⟨g', eg, _, m1⟩ := row_at (w := w4) (ao := some ⟨g, 0, none⟩) (k := 1) (u := .int .i64 xm.f) G4.out.rest.1.2.1 rfl
  simp only [Option.some.injEq, Addr.mk.injEq, and_true] at eg
  subst eg
  rw [e2] at m0
  rw [e3] at m1
  have OC := hid (Out_gt G4.out)
  clear FC e2 e3 eaw
  go_wp2_with (go_at_call 16; refine OC.out.mono ?_; rintro e w5 ⟨vo, rfl, hG5⟩; obtain ⟨ao, co, rfl⟩ := owns_form hG5.rest.1.2.1; have cs5 := conv_string (reads_own hG5.rest); have A5 := hid hG5.rest.tail.tail.tail; clear hG5)
  go_ret
  exact ⟨rfl, A5.out⟩
end Go.Proofs.YtdhkdniddjnigaaGreatDoor

namespace Go.Proofs.YtdhkdniddjnigaaGreatDoor
open Go.RowKit
set_option linter.unusedVariables false

theorem cut_to {l : List UInt8} {j : Nat} (hj : j ≤ l.length) (W : World) : (Instr.slice 9 (.string ⟨l.toArray⟩) none (some (.int .i64 (j : Int))) none).run Tryz.prog W = .ok (.string ⟨(l.take j).toArray⟩) W := by
  have := cut_run (l := l) (i := 0) (j := j) (by omega) hj W
  exact this
set_option maxRecDepth 1000000 in
/-- A text's line. -/
theorem one_any {w : World} (l : List UInt8) (hl : l.length ≤ 1000000000000) : Calls Tryz.prog 19 #[.string ⟨l.toArray⟩] w fun e w' => ∃ r : List UInt8, e = .returned (.string ⟨r.toArray⟩) ∧ w' = w ∧ (10 : UInt8) ∉ r ∧ r.length ≤ l.length := by
  have ix : Hid (∀ k, k < l.length → ∀ W, (Instr.index 9 (.string ⟨l.toArray⟩) (.int .i64 (k : Int))).run Tryz.prog W = .ok (.int .u8 ((l.getD k 0).toNat : Int)) W) := hid (fun k hk W => idx_at hk W)
  have CT : Hid (∀ j, j ≤ l.length → ∀ W, (Instr.slice 9 (.string ⟨l.toArray⟩) none (some (.int .i64 (j : Int))) none).run Tryz.prog W = .ok (.string ⟨(l.take j).toArray⟩) W) := hid (fun j hj W => cut_to hj W)
  have hsz : (⟨l.toArray⟩ : ByteArray).size = l.length := by simp [ByteArray.size]
  obtain ⟨L, hL⟩ : ∃ L, Hid (L = l) := ⟨_, hid rfl⟩
  obtain ⟨SB, hSB⟩ : ∃ s, Hid (s = (⟨l.toArray⟩ : ByteArray)) := ⟨_, hid rfl⟩
  obtain ⟨n, hn⟩ : ∃ n, Hid (n = l.length) := ⟨_, hid rfl⟩
  rw [← hSB.out] at ix CT hsz ⊢
  rw [← hn.out] at ix CT hsz hl ⊢
  go_enter Tryz.func19, Tryz.ntmps19
  go_wp2
  go_loopw [3] (fun iv wr => ∃ k : Nat, iv = .int .i64 (k : Int) ∧ k ≤ n ∧ wr = w ∧ Hid ((10 : UInt8) ∉ l.take k)) (fun iv _ => n - (intOf iv).toNat)
  case atStart => exact ⟨0, rfl, Nat.zero_le _, rfl, hid (by simp)⟩
  case round =>
    obtain ⟨k, rfl, hk, rfl, HN⟩ := hrel
    by_cases hlt : k < n
    · have i1 := ix.out k hlt
      have c1 := CT.out k hk
      have hki : (k : Int) < (n : Int) := by omega
      have wk : IntKind.i64.wrap ((k : Int) + 1) = ((k + 1 : Nat) : Int) := by rw [IntKind.wrap_i64]; omega
      have hnn := hn.out
      by_cases h10 : l.getD k 0 = 10
      · rw [h10] at i1
        have i2 : ∀ W, (Instr.index 9 (.string SB) (.int .i64 (k : Int))).run Tryz.prog W = .ok (.int .u8 10) W := i1
        clear i1 ix CT
        have LE := hid (show (l.take k).length ≤ n by rw [List.length_take]; omega)
        go_wp2
        go_ret
        exact ⟨_, rfl, rfl, HN.out, LE.out⟩
      · have e0 : (((l.getD k 0).toNat : Int) == 10) = false := by
          rw [beq_eq_false_iff_ne]
          intro h
          apply h10
          apply UInt8.toNat_inj.1
          have : (10 : UInt8).toNat = 10 := rfl
          omega
        have HN2 : Hid ((10 : UInt8) ∉ l.take (k + 1)) := hid (by
          rw [take_snocB (by omega)]
          intro h
          rcases List.mem_append.1 h with h | h
          · exact HN.out h
          · simp only [List.mem_cons, List.not_mem_nil, or_false] at h
            exact h10 h.symm)
        clear ix CT h10
        generalize ((l.getD k 0).toNat : Int) = b at *
        go_wp2
        exact ⟨⟨k + 1, rfl, hlt, trivial, HN2⟩, by simp only [intOf]; omega⟩
    · have hkn : k = n := by omega
      have HF := hid (show (10 : UInt8) ∉ l by have := HN.out; rwa [List.take_of_length_le (by have := hn.out; omega)] at this)
      have LE := hid (show l.length ≤ n by have := hn.out; omega)
      have e0 : decide ((k : Int) < (n : Int)) = false := decide_eq_false (by omega)
      have e1 : ¬ ((k : Int) < (n : Int)) := by omega
      clear ix CT hkn hlt hk
      go_wp2
      go_ret
      exact ⟨l, (by rw [hSB.out]; rfl), rfl, HF.out, LE.out⟩
end Go.Proofs.YtdhkdniddjnigaaGreatDoor

import Derived.Test.YtaomhahmpbfjhaaJ12
import Derived.Test.YtaomhahmpbfjhaaJ22
import Derived.Test.YtaomhahmpbfjhaaJ1
import Derived.ProofKit
import Derived.OpenShut
import Derived.JoinedCond
import Derived.Deep.Slices
import Derived.Lib.SmallJoins
import Derived.Carry
namespace Go.Proofs.Ytaomhahmpbfjhaa
open Go.RowKit
set_option linter.unusedVariables false

/-- What is spoilt is held, beside the desk's head. -/
theorem mark_hd {D : Nat} {va vb v : Value} {am : Option Addr} {cm : Nat} {ga gb : List Value} {l : List Value} {M : List Mk} {X Z : List Comp} {w : World} (s : Int) (hA : All (ownC 5 v l :: (X ++ (hdL D va vb (.slice am M.length cm) ga gb M ++ Z))) w) (hl : l.length ≤ 2304) (hM : M.length ≤ 1099511627776) (hm : ∀ x ∈ M, x.m ≤ 2313) : Calls Try.prog 26 #[v, .int .u8 s] w fun e w' => ∃ a2 c2, e = .returned (.slice a2 (l.length + 9) c2) ∧ w'.cell? ⟨D, 2, none⟩ = some (.slice am M.length cm) ∧ D < w'.heap.size ∧ (∃ ao3 c3 w3, (Builtin.append_ #[33, 33] 33 #[.slice am M.length cm, .slice (some ⟨w'.heap.size, 0, none⟩) 1 1]).run Try.prog (w'.alloc (.cells #[.slice a2 (l.length + 9) c2, .int .u8 s] 79)) = .ok (.slice ao3 (M.length + 1) c3) w3 ∧ w3.cell? ⟨D, 2, none⟩ = some (.slice am M.length cm) ∧ w3.frozen? ⟨D, 2, none⟩ = false ∧ Hid (∃ M' vm', M'.length = M.length + 1 ∧ (∀ y ∈ M', y.m ≤ 2313) ∧ All (X ++ (hdL D va vb vm' ga gb M' ++ Z)) (w3.setCell ⟨D, 2, none⟩ (.slice ao3 (M.length + 1) c3)))) := by
  have h1 : All (ownC 5 v l :: blkC D [va, vb, .slice am M.length cm] 35 :: markC (.slice am M.length cm) M :: (X ++ ([ownC 23 va ga, ownC 27 vb gb] ++ (M.map Mk.comp ++ Z)))) w := by
    refine hA.perm (.cons _ ?_)
    have := perm_by 6 [X, [blkC D [va, vb, .slice am M.length cm] 35], [ownC 23 va ga, ownC 27 vb gb], [markC (.slice am M.length cm) M], M.map Mk.comp, Z] [1, 3, 0, 2, 4, 5] rfl (by decide)
    simpa [List.getD, hdL] using this
  refine (spoil_any h1 s (by omega)).mono ?_
  rintro e w' ⟨a2, c2, rfl, A8⟩
  have hD := A8.tail.1.2.1
  have A9 := A8.cab
  obtain ⟨ao3, c3, w3, hr, A⟩ := app_mark (x := ⟨a2, l.length + 9, c2, s⟩) (A9.alloc (.cells #[.slice a2 (l.length + 9) c2, .int .u8 s] 79)) (heap_alloc_new w' _) (by omega)
  have hD3 := A.tail.tail.1.2.1
  refine ⟨a2, c2, rfl, by rw [cell_at hD]; rfl, (Array.getElem?_eq_some_iff.1 hD).1, ao3, c3, w3, hr, by rw [cell_at hD3]; rfl, free_at hD3 2, hid ⟨M ++ [⟨a2, l.length + 9, c2, s⟩], .slice ao3 (M.length + 1) c3, by simp, fun y hy => ?_, ?_⟩⟩
  · rcases List.mem_append.1 hy with hy | hy
    · exact hm y hy
    · rw [List.mem_singleton.1 hy]; show l.length + 9 ≤ 2313; omega
  · have B := A.cab.setBlk 2 (.slice ao3 (M.length + 1) c3)
    refine B.perm ?_
    have := perm_by 7 [[blkC D [va, vb, .slice ao3 (M.length + 1) c3] 35], [markC (.slice ao3 (M.length + 1) c3) (M ++ [⟨a2, l.length + 9, c2, s⟩])], [ownC 5 (.slice a2 (l.length + 9) c2) (List.replicate (l.length + 9) (.int .u8 s))], X, [ownC 23 va ga, ownC 27 vb gb], M.map Mk.comp, Z] [3, 0, 4, 1, 5, 2, 6] rfl (by decide)
    simpa [List.getD, hdL, Mk.comp] using this

set_option maxHeartbeats 3200000 in
set_option maxRecDepth 1000000 in
theorem alike_any {D n : Nat} {va vb vm : Value} {ga gb : List Value} {Q : Pool} {t : Tq} {M : List Mk} {Z : List Comp} {w : World} (hA : All (poolC Q :: blkC t.g (bookL n t.lv t.ps) 70 :: (refL t.R t.v t.rs ++ (hdL D va vb vm ga gb M ++ Z))) w) (hok0 : t.ok Q n) (hM : M.length ≤ 1099511627000) (hm : ∀ x ∈ M, x.m ≤ 2313) : Calls Try.prog 10 #[.pointer (some ⟨t.g, 0, none⟩), .pointer (some ⟨t.R, 0, none⟩), .pointer (some ⟨D, 2, none⟩)] w fun e w' => e = .returned (.bool true) ∧ ∃ vm' M', M'.length ≤ M.length + 64 ∧ (∀ x ∈ M', x.m ≤ 2313) ∧ All (poolC Q :: blkC t.g (bookL n t.lv t.ps) 70 :: (refL t.R t.v t.rs ++ (hdL D va vb vm' ga gb M' ++ Z))) w' := by
  have hok := hid hok0
  have hcap := hid hok.out.bk.cap
  have hn64 : n ≤ 64 := Nat.le_trans hok.out.bk.nlv hok.out.bk.lv64
  have A0 := hid hA
  obtain ⟨gr, rc, x, hv, hx, e1, e2, lR, lg, r0, y0, y1, y2, hmm, hrd⟩ := ref_at (X := [_, _]) hA hok.out.rs (show 0 < n from hok.out.bk.n1)
  have HV := hid hv
  have HM := hid hm
  clear hA hx e1 e2 y0 y1 y2 hmm hrd hm hok0 lg lR hv
  clear r0
  have SR : Hid (∀ (j : Nat) (x : Xs) (X Y : List Comp) W, j < n → t.rs[j]? = some x → All (X ++ (refL t.R t.v t.rs ++ Y)) W → t.R < W.heap.size ∧ gr < W.heap.size ∧ W.cell? ⟨t.R, 0, none⟩ = some (.slice (some ⟨gr, 0, none⟩) n rc) ∧ W.cell? ⟨gr, j * 3, none⟩ = some (.int .i64 (j : Int)) ∧ W.cell? ⟨gr, j * 3 + 1, none⟩ = some (.int .i64 ((t.S j).1 : Int)) ∧ W.cell? ⟨gr, j * 3 + 2, none⟩ = some (.slice x.ao (t.S j).2.length x.cap) ∧ Reads W (.slice x.ao (t.S j).2.length x.cap) (t.S j).2) := hid (fun j x0 X Y W hj hx0 hW => by
    obtain ⟨gr', rc', x, hv, hx, e1, e2, lR, lg, r0, y0, y1, y2, hmm, hrd⟩ := ref_at (X := X) hW hok.out.rs hj
    rw [HV.out] at hv
    simp only [Value.slice.injEq, Option.some.injEq, Addr.mk.injEq, and_true, true_and] at hv
    obtain ⟨rfl, rfl⟩ := hv
    rw [hx0] at hx
    cases hx
    exact ⟨lR, lg, r0, y0, y1, y2, hrd⟩)
  have hxs : Hid (∀ j, j < n → ∃ x, t.rs[j]? = some x) := hid (fun j hj => ⟨_, List.getElem?_eq_getElem (by rw [hok.out.rs.len]; exact hj)⟩)
  have hn1 := hok.out.bk.n1
  go_enter Try.func10, Try.ntmps10
  go_wp2_with fail
  refine (Last_mem A0.out (by simp) (by simp) hok.out.bk).mono ?_
  rintro e w1 ⟨rfl, rfl⟩
  go_wp2_with fail
  refine (rLast_all A0.out.refF hok.out.rs hn64 (fun i => (hok.out.bk.cap i).1)).mono ?_
  rintro e w2 ⟨rfl, hb⟩
  have A1 := hid (A0.out.later hb)
  clear A0 hb
  obtain ⟨x0, hx0⟩ := hxs.out 0 hn1
  obtain ⟨lR, lg, r0, x1⟩ := SR.out 0 x0 [_, _] _ _ hn1 hx0 A1.out
  clear x1 hx0 x0
  have A2 : Hid (∃ vm' M', M'.length = M.length + 0 ∧ (∀ x ∈ M', x.m ≤ 2313) ∧ All (poolC Q :: blkC t.g (bookL n t.lv t.ps) 70 :: (refL t.R t.v t.rs ++ (hdL D va vb vm' ga gb M' ++ Z))) w2) := hid ⟨vm, M, rfl, HM.out, A1.out⟩
  clear A1
  go_wp2_with fail
  clear r0 lR lg
  go_loopw [23] (fun iv wr => ∃ (j : Nat), j ≤ n ∧ iv = .int .i64 (j : Int) ∧ Hid (∃ vm' M', M'.length = M.length + j ∧ (∀ x ∈ M', x.m ≤ 2313) ∧ All (poolC Q :: blkC t.g (bookL n t.lv t.ps) 70 :: (refL t.R t.v t.rs ++ (hdL D va vb vm' ga gb M' ++ Z))) wr)) (fun iv _ => n - (intOf iv).toNat)
  case atStart => exact ⟨0, by omega, rfl, A2⟩
  case round =>
    clear A2
    obtain ⟨j, hj, rfl, A3⟩ := hrel
    by_cases hjl : j < n
    · have l1 : decide ((j : Int) < (n : Int)) = true := decide_eq_true (by omega)
      have l2 : (j : Int) < (n : Int) := by omega
      obtain ⟨vm', M', hM', hs', A4⟩ := A3.out
      obtain ⟨am, cm, rfl⟩ := owns_form (show wr.ownsRow 0 79 2 vm' M'.length (flatM M') from (A4.mem (c := markC vm' M') (by simp [hdL])).2.1)
      obtain ⟨x, hx⟩ := hxs.out j hjl
      obtain ⟨lR, lg, r0, y0, y1, y2, hrd⟩ := SR.out j x [_, _] _ _ hjl hx A4
      have b1 := (hcap.out j).1
      have b2 := (hcap.out j).2
      have A5 := hid (A4.addBlk [.int .i64 (j : Int), .int .i64 ((t.S j).1 : Int), .slice x.ao (t.S j).2.length x.cap] 51)
      have C21 := hid (Get_all (i := j) A5.out.bca hok.out.bk hjl)
      have HX := hid hx
      have HMl := hid hM'
      have HS' := hid hs'
      clear A3 A4 A5 hx hrd hM' hs'
      go_wp2_with fail
      refine C21.out.mono ?_
      rintro e w5 ⟨a, c, rfl, A6⟩
      have A6 := hid A6
      clear C21 r0 y0 y1 y2 lR lg
      generalize wr.heap.size = B at *
      have eB : w5.heap[B]? = some (.cells [.int .i64 (j : Int), .int .i64 ((t.S j).1 : Int), .slice x.ao (t.S j).2.length x.cap].toArray 51 (0, 0)) := A6.out.blk (by simp)
      have z1 : w5.cell? ⟨B, 1, none⟩ = some (.int .i64 ((t.S j).1 : Int)) := by rw [cell_at eB]; rfl
      have z2 : w5.cell? ⟨B, 2, none⟩ = some (.slice x.ao (t.S j).2.length x.cap) := by rw [cell_at eB]; rfl
      have C22 : Hid (Calls Try.prog 22 #[.slice a (t.S j).2.length c, .slice x.ao (t.S j).2.length x.cap] w5 fun e w' => e = .returned (.bool true) ∧ ∃ q, w' = w5.drewN q) := hid (by
        obtain ⟨_, _, _, _, _, _, hrd⟩ := SR.out j x [_, _, _, _] _ _ hjl HX.out A6.out
        refine (Same_any (l := (t.S j).2) (m := (t.S j).2) (Reads.of_owns A6.out.1.2.1) hrd (by omega) (by omega)).mono ?_
        rintro e w' ⟨rfl, h⟩
        rw [decide_eq_true rfl]
        exact ⟨rfl, h⟩)
      clear eB
      go_wp2_with fail
      refine C22.out.mono ?_
      rintro e w6 ⟨rfl, q, hw6⟩
      have A7 := hid (A6.out.drewN q)
      rw [← hw6] at A7
      clear A6 hw6 C22 z1 z2
      have A8 : Hid (All (ownC 5 (.slice a (t.S j).2.length c) (cellsB (t.S j).2) :: ((poolC Q :: blkC t.g (bookL n t.lv t.ps) 70 :: blkC B [.int .i64 (j : Int), .int .i64 ((t.S j).1 : Int), .slice x.ao (t.S j).2.length x.cap] 51 :: refL t.R t.v t.rs) ++ (hdL D va vb (.slice am M'.length cm) ga gb M' ++ Z))) w6) := hid (by rw [← rowC_own]; exact A7.out)
      have eD : w6.heap[D]? = some (.cells [va, vb, .slice am M'.length cm].toArray 35 (0, 0)) := A8.out.blk (by simp [hdL])
      have c2 : w6.cell? ⟨D, 2, none⟩ = some (.slice am M'.length cm) := by rw [cell_at eD]; rfl
      have hMb : M'.length ≤ 1099511627776 := by have := HMl.out; omega
      clear A7 eD
      go_upto_region 10 with fail
      clear hMb
      generalize ((M'.length : Int) * 7 + 1) % 256 = s
      have C26 := hid (mark_hd s A8.out.drew (by simpa [cellsB] using b2) (by have := HMl.out; omega) HS'.out)
      rw [show (cellsB (t.S j).2).length = (t.S j).2.length by simp [cellsB]] at C26
      clear A8
      go_region_law (first
        | (go_simp; go_at_call 26; refine C26.out.mono ?_; rintro e w8 ⟨a2, c9, rfl, s1, s2, ao3, c3, w9, hr, s3, s4, HI⟩; have HR := hid hr; clear hr)
        | (refine step_append_run (by rfl) (.tmp 60) (.tmp 66) 33 (by rfl) _ _ _ _ (by rfl) (by rfl) HR.out ?_))
      all_goals clear HR s1 s2 C26
      all_goals go_wp2_with fail
      all_goals clear s3 s4 c2
      all_goals go_roundw
      all_goals first
        | exact ⟨j + 1, by omega, by go_num, hid (by
            obtain ⟨M3, vm3, hm3, hs3, A9⟩ := HI.out
            exact ⟨vm3, M3, by have := HMl.out; omega, hs3, A9.cab.tail⟩)⟩
        | (simp [intOf]; omega)
    · have l1 : decide ((j : Int) < (n : Int)) = false := decide_eq_false (by omega)
      have l2 : ¬ ((j : Int) < (n : Int)) := by omega
      go_wp2
      go_ret
      obtain ⟨vm', M', hM', hs', A4⟩ := A3.out
      exact ⟨rfl, vm', M', by omega, hs', A4⟩
end Go.Proofs.Ytaomhahmpbfjhaa

namespace Go.Proofs.Ytaomhahmpbfjhaa
open Go.RowKit
set_option linter.unusedVariables false

theorem rNew_bad {w : World} {n : Int} (hb : n < 1 ∨ n > 64) : Calls Try.prog 8 #[.int .i64 n] w fun e w' => e = .returned (.tuple #[.pointer none, .int .i64 60]) ∧ w' = w := by
  by_cases h1 : n < 1
  · have d1 : decide (n < 1) = true := by simpa using h1
    clear hb
    go_enter Try.func8, Try.ntmps8
    go_wp2
    go_ret2
    exact ⟨rfl, rfl⟩
  · have d1 : decide (n < 1) = false := by simpa using h1
    have d2 : n > 64 := by omega
    clear hb
    go_enter Try.func8, Try.ntmps8
    go_wp2
    go_ret2
    exact ⟨rfl, rfl⟩

theorem All.addOwn1 {cs : List Comp} {w : World} (h : All cs w) (e : TypeId) (u : Value) : All (ownC e (.slice (some ⟨w.heap.size, 0, none⟩) 1 1) [u] :: cs) (w.alloc (.cells #[u] e)) := by
  refine h.addOwn (ba w _) ?_
  exact ⟨rfl, Or.inr ⟨w.heap.size, 1, #[u], rfl, Nat.le_refl _, heap_alloc_new w _, Nat.le_refl _, by unfold maxLen; omega, rfl, rfl⟩⟩
set_option maxHeartbeats 1600000 in
set_option maxRecDepth 1000000 in
theorem script_bad {w : World} {n : Int} {ao : Option Addr} {l c : Nat} (hb : n < 1 ∨ n > 64) : Calls Try.prog 3 #[.int .i64 n, .slice ao l c] w fun e w' => e = .returned (.bool true) ∧ Below w.heap.size w w' := by
  have C7 := hid (New_bad (w := w) hb)
  have C8 := hid (rNew_bad (w := w) hb)
  clear hb
  go_enter Try.func3, Try.ntmps3
  go_wp2_with fail
  refine C7.out.mono ?_
  rintro e w1 ⟨rfl, rfl⟩
  go_wp2_with fail
  refine C8.out.mono ?_
  rintro e w2 ⟨rfl, rfl⟩
  go_wp2
  go_ret
  exact ⟨rfl, Below.refl _ _⟩

set_option maxHeartbeats 3200000 in
set_option maxRecDepth 1000000 in
theorem script_walk {w : World} {nz : Int} {sv : Value} {acts : List Ac} (hs : ActsAt w sv acts) (hac : ∀ x ∈ acts, ∃ ys, AcIn w x ys) (hlen : acts.length ≤ 1048576) : Calls Try.prog 3 #[.int .i64 nz, sv] w fun e w' => e = .returned (.bool true) ∧ Below w.heap.size w w' := by
  obtain ⟨ao, cp, rfl⟩ := hs.form
  by_cases hb : nz < 1 ∨ nz > 64
  · exact script_bad hb
  obtain ⟨n, rfl⟩ : ∃ n : Nat, nz = n := ⟨nz.toNat, by omega⟩
  have h1 : 1 ≤ n := by omega
  have h2 : n ≤ 64 := by omega
  have HS := hid hs
  have HAC := hid hac
  clear hs hac hb
  have C7 := hid (New_all (All.came w).pool0 h1 h2)
  go_enter Try.func3, Try.ntmps3
  go_wp2_with fail
  refine C7.out.mono ?_
  rintro e w1 ⟨g, rfl, Q, lv, ps, Nn, A1, B1, _⟩
  have C8 := hid (rNew_all A1 h1 h2)
  have B1 := hid B1
  clear C7 A1
  go_wp2_with fail
  refine C8.out.mono ?_
  rintro e w2 ⟨R, vR, rfl, A2⟩
  have A2 := hid A2
  clear C8
  obtain ⟨D, hD⟩ : ∃ D, Hid (D = w2.heap.size + 1 + 1) := ⟨_, hid rfl⟩
  obtain ⟨rb, hrb⟩ : ∃ rb, Hid (rb = w2.heap.size + 1) := ⟨_, hid rfl⟩
  obtain ⟨ra, hra⟩ : ∃ ra, Hid (ra = w2.heap.size) := ⟨_, hid rfl⟩
  have A3 : Hid (DeskI D n 1 0 [inC w] (((w2.alloc (.cells #[.pointer (some ⟨g, 0, none⟩)] 23)).alloc (.cells #[.pointer (some ⟨R, 0, none⟩)] 27)).alloc (.cells #[.slice (some ⟨ra, 0, none⟩) 1 1, .slice (some ⟨rb, 0, none⟩) 1 1, .slice none 0 0] 35))) := hid (by
    have B := ((((A2.out.addRow0 (e := 79) (size := 2)).addOwn1 23 (.pointer (some ⟨g, 0, none⟩))).addOwn1 27 (.pointer (some ⟨R, 0, none⟩)))).addBlk [.slice (some ⟨ra, 0, none⟩) 1 1, .slice (some ⟨rb, 0, none⟩) 1 1, .slice none 0 0] 35
    simp only [World.size_alloc] at B
    rw [← hD.out, ← hrb.out, ← hra.out] at B
    refine ⟨.slice (some ⟨ra, 0, none⟩) 1 1, .slice (some ⟨rb, 0, none⟩) 1 1, .slice none 0 0, Q, [⟨g, R, lv, ps, Nn, vR, (List.range n).map zeroX, noS⟩], [], by simp, ⟨fun t ht => by rw [List.mem_singleton.1 ht]; exact ⟨B1.out, RS.zero n⟩, by simp, by simp, by simp, fun x hx => by cases hx⟩, B.perm ?_⟩
    have := perm_by 7 [[blkC D [.slice (some ⟨ra, 0, none⟩) 1 1, .slice (some ⟨rb, 0, none⟩) 1 1, .slice none 0 0] 35], [ownC 27 (.slice (some ⟨rb, 0, none⟩) 1 1) [.pointer (some ⟨R, 0, none⟩)]], [ownC 23 (.slice (some ⟨ra, 0, none⟩) 1 1) [.pointer (some ⟨g, 0, none⟩)]], [rowC 79 2 (.slice none 0 0) 0 []], refL R vR ((List.range n).map zeroX), [poolC Q, blkC g (bookL n lv ps) 70], [inC w]] [0, 2, 1, 3, 5, 4, 6] rfl (by decide)
    simpa [List.getD, deskL, hdL, pA, pB, Tq.parts, markC, flatM] using this)
  clear A2 B1
  go_wp2_with fail
  rw [← hD.out, ← hrb.out, ← hra.out]
  clear hD hrb hra
  generalize (((w2.alloc (.cells #[.pointer (some ⟨g, 0, none⟩)] 23)).alloc (.cells #[.pointer (some ⟨R, 0, none⟩)] 27)).alloc (.cells #[.slice (some ⟨ra, 0, none⟩) 1 1, .slice (some ⟨rb, 0, none⟩) 1 1, .slice none 0 0] 35)) = w3 at A3 ⊢
  go_loopw [43] (fun iv wr => ∃ (i : Nat), i ≤ acts.length ∧ iv = .int .i64 (i : Int) ∧ Hid (DeskI D n 1 (64 * i) [inC w] wr)) (fun iv _ => acts.length - (intOf iv).toNat)
  case atStart => exact ⟨0, by omega, rfl, A3⟩
  case round =>
    clear A3
    obtain ⟨i, hi, rfl, HI⟩ := hrel
    by_cases hlt : i < acts.length
    · obtain ⟨x, hx⟩ : ∃ x, Hid (acts[i]? = some x) := ⟨_, hid (List.getElem?_eq_getElem hlt)⟩
      obtain ⟨va, vb, vm, Q2, T, M, hN1, hF, A4⟩ := HI.out
      have HB := hid (A4.into (w0 := w) (by simp))
      obtain ⟨b, o, rfl, lb, hc, hrd⟩ := HS.out.at HB.out hx.out
      have y0 : wr.cell? ⟨b, o + i * 6, none⟩ = some (.int .i64 x.kind) := hc 0 _ rfl
      have y1 : wr.cell? ⟨b, o + i * 6 + 1, none⟩ = some (.int .i64 x.book) := hc 1 _ rfl
      have y2 : wr.cell? ⟨b, o + i * 6 + 2, none⟩ = some (.int .i64 x.num) := hc 2 _ rfl
      have y3 : wr.cell? ⟨b, o + i * 6 + 3, none⟩ = some (.int .i64 x.at_) := hc 3 _ rfl
      have y4 : wr.cell? ⟨b, o + i * 6 + 4, none⟩ = some (.slice x.d1 x.d2 x.d3) := hc 4 _ rfl
      have y5 : wr.cell? ⟨b, o + i * 6 + 5, none⟩ = some (.slice x.l1 x.l2 x.l3) := hc 5 _ rfl
      have l1 : decide ((i : Int) < (acts.length : Int)) = true := decide_eq_true (by omega)
      have l2 : (i : Int) < (acts.length : Int) := by omega
      obtain ⟨ys, hin⟩ := HAC.out x (List.mem_of_getElem? hx.out)
      have C9 : Hid (Calls Try.prog 9 #[.pointer (some ⟨D, 0, none⟩), .agg #[.int .i64 x.kind, .int .i64 x.book, .int .i64 x.num, .int .i64 x.at_, .slice x.d1 x.d2 x.d3, .slice x.l1 x.l2 x.l3]] (wr.alloc (.cells #[.int .i64 x.kind, .int .i64 x.book, .int .i64 x.num, .int .i64 x.at_, .slice x.d1 x.d2 x.d3, .slice x.l1 x.l2 x.l3] 39)) fun e w' => e = .returned (.bool true) ∧ DeskI D n T.length (64 * i + 64) [inC w] w') := hid (act_any (A4.alloc _) hF (by simp) hin (by omega))
      clear A4 HI hF hx hin hrd hc lb
      go_wp2_with fail
      refine C9.out.mono ?_
      rintro e w5 ⟨rfl, va', vb', vm', Q', T', M', k1, k2, k3⟩
      have HI' : Hid (DeskI D n 1 (64 * (i + 1)) [inC w] w5) := hid ⟨va', vb', vm', Q', T', M', by omega, k2, k3⟩
      clear C9 k1 k2 k3 y0 y1 y2 y3 y4 y5
      go_wp2_with fail
      go_roundw
      case rel => exact ⟨i + 1, by omega, by go_num, HI'⟩
      case measure => simp [intOf]; omega
    · have l1 : decide ((i : Int) < (acts.length : Int)) = false := decide_eq_false (by omega)
      have l2 : ¬ ((i : Int) < (acts.length : Int)) := by omega
      obtain ⟨va, vb, vm, Q2, T, M, hN1, hF, A4⟩ := HI.out
      have hT1 := hF.one
      have hT4 := hF.four
      obtain ⟨t0, hT0⟩ : ∃ t, T[0]? = some t := ⟨_, List.getElem?_eq_getElem (show 0 < T.length by omega)⟩
      obtain ⟨ra2, ca, rb2, cb, rfl, rfl, RD⟩ := desk_reads hT0 A4
      have c0 := RD.c0
      have HF := hid hF
      have A5 : Hid (∃ vm' M', M'.length ≤ 64 * acts.length + 64 * 0 ∧ (∀ y ∈ M', y.m ≤ 2313) ∧ All (deskL D n (.slice (some ⟨ra2, 0, none⟩) T.length ca) (.slice (some ⟨rb2, 0, none⟩) T.length cb) vm' Q2 T M' ++ [inC w]) wr) := hid ⟨vm, M, by have := hF.few; omega, hF.short, A4⟩
      clear HI A4 hF hT0 RD
      go_wp2_with fail
      clear c0
      go_loopw [57] (fun iv wr => ∃ (k : Nat), k ≤ T.length ∧ iv = .int .i64 (k : Int) ∧ Hid (∃ vm' M', M'.length ≤ 64 * acts.length + 64 * k ∧ (∀ y ∈ M', y.m ≤ 2313) ∧ All (deskL D n (.slice (some ⟨ra2, 0, none⟩) T.length ca) (.slice (some ⟨rb2, 0, none⟩) T.length cb) vm' Q2 T M' ++ [inC w]) wr)) (fun iv _ => T.length - (intOf iv).toNat)
      case atStart => exact ⟨0, by omega, rfl, A5⟩
      case round =>
        clear A5
        obtain ⟨k, hk, rfl, A6⟩ := hrel
        by_cases hkl : k < T.length
        · have m1 : decide ((k : Int) < (T.length : Int)) = true := decide_eq_true (by omega)
          have m2 : (k : Int) < (T.length : Int) := by omega
          obtain ⟨t, hT⟩ : ∃ t, Hid (T[k]? = some t) := ⟨_, hid (List.getElem?_eq_getElem hkl)⟩
          obtain ⟨vm', M', hM', hs', A7⟩ := A6.out
          obtain ⟨c0, c1, pa, pb⟩ := desk_rd hT.out A7
          have C10 := hid (alike_any (desk_out hT.out A7).drew (HF.out.ok t (List.mem_of_getElem? hT.out)) (by omega) hs')
          have HM := hid hM'
          clear A6 A7 hM' hs'
          have q0 : Hid (wr.cell? ⟨D, 0, none⟩ = some (.slice (some ⟨ra2, 0, none⟩) T.length ca) ∧ wr.cell? ⟨D, 1, none⟩ = some (.slice (some ⟨rb2, 0, none⟩) T.length cb) ∧ wr.cell? ⟨ra2, k, none⟩ = some (.pointer (some ⟨t.g, 0, none⟩)) ∧ wr.cell? ⟨rb2, k, none⟩ = some (.pointer (some ⟨t.R, 0, none⟩))) := hid ⟨c0, c1, pa, pb⟩
          go_wp2_with fail
          go_region_held3 (fun W => W.cell? ⟨D, 0, none⟩ = some (.slice (some ⟨ra2, 0, none⟩) T.length ca) ∧ W.cell? ⟨D, 1, none⟩ = some (.slice (some ⟨rb2, 0, none⟩) T.length cb) ∧ W.cell? ⟨ra2, k, none⟩ = some (.pointer (some ⟨t.g, 0, none⟩)) ∧ W.cell? ⟨rb2, k, none⟩ = some (.pointer (some ⟨t.R, 0, none⟩))) (first | exact q0.out | exact q1.out)
            ((go_at_call 10; refine C10.out.mono ?_; rintro e w6 ⟨rfl, vm2, M2, hM2, hs2, A8⟩; have A9 := hid (desk_in hT.out rfl rfl A8); rw [setT_same hT.out] at A9; have q1 : Hid (w6.cell? ⟨D, 0, none⟩ = some (.slice (some ⟨ra2, 0, none⟩) T.length ca) ∧ w6.cell? ⟨D, 1, none⟩ = some (.slice (some ⟨rb2, 0, none⟩) T.length cb) ∧ w6.cell? ⟨ra2, k, none⟩ = some (.pointer (some ⟨t.g, 0, none⟩)) ∧ w6.cell? ⟨rb2, k, none⟩ = some (.pointer (some ⟨t.R, 0, none⟩))) := hid (by obtain ⟨d0, d1, d2, d3⟩ := desk_rd hT.out A9.out; exact ⟨d0, d1, d2, d3⟩); have HM2 := hid hM2; have HS2 := hid hs2; clear A8 hM2 hs2))
          clear C10 c0 c1 pa pb q0 q1
          go_wp2_with fail
          go_roundw
          case rel => exact ⟨k + 1, by omega, by go_num, hid ⟨vm2, M2, by have h1 := HM.out; have h2 := HM2.out; omega, HS2.out, A9.out⟩⟩
          case measure => simp [intOf]; omega
        · have m1 : decide ((k : Int) < (T.length : Int)) = false := decide_eq_false (by omega)
          have m2 : ¬ ((k : Int) < (T.length : Int)) := by omega
          obtain ⟨vm', M', hM', hs', A7⟩ := A6.out
          have eD : wr.heap[D]? = some (.cells [.slice (some ⟨ra2, 0, none⟩) T.length ca, .slice (some ⟨rb2, 0, none⟩) T.length cb, vm'].toArray 35 (0, 0)) := A7.blk (by simp [deskL, hdL])
          obtain ⟨am, cm, rfl⟩ := owns_form (show wr.ownsRow 0 79 2 vm' M'.length (flatM M') from (A7.mem (c := markC vm' M') (by simp [deskL, hdL])).2.1)
          have c2 : wr.cell? ⟨D, 2, none⟩ = some (.slice am M'.length cm) := by rw [cell_at eD]; rfl
          have HB := hid (A7.into (w0 := w) (by simp))
          have C11 := hid (stand_any (vm := .slice am M'.length cm) (M := M') (cs := [blkC D [.slice (some ⟨ra2, 0, none⟩) T.length ca, .slice (some ⟨rb2, 0, none⟩) T.length cb, .slice am M'.length cm] 35, ownC 23 (.slice (some ⟨ra2, 0, none⟩) T.length ca) (pA T), ownC 27 (.slice (some ⟨rb2, 0, none⟩) T.length cb) (pB T)] ++ (poolC Q2 :: (T.flatMap (Tq.parts n) ++ [inC w]))) (A7.perm (by
            have := perm_by 4 [[blkC D [.slice (some ⟨ra2, 0, none⟩) T.length ca, .slice (some ⟨rb2, 0, none⟩) T.length cb, .slice am M'.length cm] 35, ownC 23 (.slice (some ⟨ra2, 0, none⟩) T.length ca) (pA T), ownC 27 (.slice (some ⟨rb2, 0, none⟩) T.length cb) (pB T)], [markC (.slice am M'.length cm) M'], M'.map Mk.comp, poolC Q2 :: (T.flatMap (Tq.parts n) ++ [inC w])] [1, 2, 0, 3] rfl (by decide)
            simpa [List.getD, deskL, hdL] using this)) (by omega) (fun y hy => by have := hs' y hy; omega))
          clear A6 A7 hM' hs' eD
          go_wp2_with fail
          refine C11.out.mono ?_
          rintro e w6 ⟨rfl, hb⟩
          have HB2 := hid (belowT HB.out hb)
          clear C11 hb c2
          go_wp2
          go_ret
          exact ⟨rfl, HB2.out⟩
end Go.Proofs.Ytaomhahmpbfjhaa

namespace Go.Proofs.Ytaomhahmpbfjhaa
theorem Try.own : ownKnob Try.prog.godebug = none := by kernel_rfl
theorem Try.laidOut : laidOutB Try.prog = true := by kernel_rfl
end Go.Proofs.Ytaomhahmpbfjhaa

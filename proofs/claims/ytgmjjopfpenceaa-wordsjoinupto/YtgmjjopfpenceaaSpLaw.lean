import Derived.Test.YtgmjjopfpenceaaSplit
import Derived.Test.YtgmjjopfpenceaaRs
import Derived.Test.YtgmjjopfpenceaaTx
namespace Go.Proofs.Ytgmjjopfpenceaa
open Go.RowKit
set_option linter.unusedVariables false

theorem Split_any {l : List UInt8} {cs : List Comp} {w : World} (h : All cs w) (hl : l.length ≤ 140737488355328) : Calls Try.prog 6 #[.string ⟨l.toArray⟩] w (SplitPost (splitW l) cs) := by
  unfold splitW
  by_cases h8 : 8192 < l.length
  · rw [if_pos h8]; exact Split_long h h8 hl
  · rw [if_neg h8]; exact Split_short h (by omega)
theorem rSplit_any {l : List UInt8} {cs : List Comp} {w : World} (h : All cs w) (hl : l.length ≤ 140737488355328) : Calls Try.prog 8 #[.string ⟨l.toArray⟩] w (SplitPost (splitW l) cs) := by
  unfold splitW
  by_cases h8 : 8192 < l.length
  · rw [if_pos h8]; exact rSplit_long h h8 hl
  · rw [if_neg h8]; exact rSplit_short h (by omega)
theorem finW_size (s : St) (ws : Ws) (k : Nat) : (finW s ws k).ws.length ≤ s.held + wsz ws := by
  cases s <;> simp [finW, Ans.ws, St.held, wsz] <;> omega
theorem runW_size : ∀ (t : List UInt8) (s : St) (ws : Ws) (k : Nat), (runW s ws k t).ws.length ≤ s.held + wsz ws + 2 * t.length
  | [], s, ws, k => by rw [runW]; exact Nat.le_trans (finW_size s ws k) (by simp)
  | b :: t, s, ws, k => by
    rw [runW]
    cases hs : stepW s ws k b with
    | go s' ws' =>
      simp only
      have h1 := runW_size t s' ws' (k + 1)
      have h2 := stepW_held hs
      simp only [List.length_cons]
      omega
    | bad j => simp [Ans.ws]
theorem splitW_size (l : List UInt8) : (splitW l).ws.length ≤ 16384 := by
  unfold splitW
  by_cases h8 : 8192 < l.length
  · rw [if_pos h8]; simp [Ans.ws]
  · rw [if_neg h8]
    have := runW_size l .ahead [] 0
    simp only [St.held, wsz, List.length_nil, List.map_nil, List.sum_nil] at this
    omega

theorem rt_two (w : World) (x y : List UInt8) : Rt (w.alloc (.cells #[.string ⟨x.toArray⟩, .string ⟨y.toArray⟩] 9)) (.slice (some ⟨w.heap.size, 0, none⟩) 2 2) [x, y] := by
  refine ⟨some ⟨w.heap.size, 0, none⟩, 2, rfl, by simp, Or.inr ⟨w.heap.size, 0, rfl, by simp, fun j hj => ?_⟩⟩
  rw [cell_at (heap_alloc_new w _)]
  match j with
  | 0 => rfl
  | 1 => rfl
  | j + 2 => simp at hj; omega

theorem own9 {v : Value} {l : Ws} {cs : List Comp} {w : World} (h : All (ownC 9 v (txW l) :: cs) w) : ∃ ao c, v = .slice ao l.length c := by
  have := owns_form (h.1.2.1 : w.ownsRow 0 9 1 v _ _)
  rw [txW_length] at this
  exact this

set_option maxHeartbeats 3200000 in
set_option maxRecDepth 1000000 in
theorem split_law {l m : List UInt8} {w : World} (hl : l.length ≤ 140737488355328) (hm : m.length ≤ 140737488355328) :
    Calls Try.prog 3 #[.string ⟨l.toArray⟩, .string ⟨m.toArray⟩] w fun e w' => e = .returned (.bool true) ∧ Below w.heap.size w w' := by
  have A0 := hid (All.came w)
  have SP : Hid (∀ (cs : List Comp) (W : World), All cs W → Calls Try.prog 6 #[.string ⟨l.toArray⟩] W (SplitPost (splitW l) cs)) := hid (fun cs W h => Split_any h hl)
  have RS : Hid (∀ (cs : List Comp) (W : World), All cs W → Calls Try.prog 8 #[.string ⟨l.toArray⟩] W (SplitPost (splitW l) cs)) := hid (fun cs W h => rSplit_any h hl)
  have SM : Hid (∀ (cs : List Comp) (W : World), All cs W → Calls Try.prog 6 #[.string ⟨m.toArray⟩] W (SplitPost (splitW m) cs)) := hid (fun cs W h => Split_any h hm)
  have RM : Hid (∀ (cs : List Comp) (W : World), All cs W → Calls Try.prog 8 #[.string ⟨m.toArray⟩] W (SplitPost (splitW m) cs)) := hid (fun cs W h => rSplit_any h hm)
  have SC : Hid (Calls Try.prog 6 #[.string ⟨#[97, 32, 34, 98, 32, 99, 34]⟩] w (SplitPost (.ok [[97], [98, 32, 99]]) [inC w])) := hid (by
    have := Split_any (l := [97, 32, 34, 98, 32, 99, 34]) A0.out (by simp)
    have e : splitW [97, 32, 34, 98, 32, 99, 34] = .ok [[97], [98, 32, 99]] := by rfl
    rw [e] at this
    exact this)
  have z1 := splitW_size l
  have z2 := splitW_size m
  generalize splitW l = AL at *
  generalize splitW m = AM at *
  obtain ⟨wl, hwl⟩ : ∃ wl, wl = AL.ws := ⟨_, rfl⟩
  obtain ⟨wm, hwm⟩ : ∃ wm, wm = AM.ws := ⟨_, rfl⟩
  obtain ⟨pl, hpl⟩ : ∃ pl, pl = AL.at := ⟨_, rfl⟩
  obtain ⟨pm, hpm⟩ : ∃ pm, pm = AM.at := ⟨_, rfl⟩
  obtain ⟨el, hel⟩ : ∃ el, el = AL.err := ⟨_, rfl⟩
  obtain ⟨em, hem⟩ : ∃ em, em = AM.err := ⟨_, rfl⟩
  unfold SplitPost at SP RS SM RM
  rw [← hwl, ← hpl, ← hel] at SP RS
  rw [← hwm, ← hpm, ← hem] at SM RM
  rw [← hwl] at z1
  rw [← hwm] at z2
  clear hwl hwm hpl hpm hel hem
  generalize ByteArray.mk l.toArray = L at *
  generalize ByteArray.mk m.toArray = M at *
  have eq1 : ((pl : Int) != (pl : Int)) = false := by simp
  have eq2 : ((el : Int) != (el : Int)) = false := by simp
  go_enter Try.func3, Try.ntmps3
  go_wp2_with (go_at_call 6; refine SC.out.mono ?_; rintro e w1 ⟨v0, rfl, A1⟩; have B1 := hid A1; clear A1; refine Hid.out ?_)
  refine hid ?_
  obtain ⟨ao0, c0, rfl⟩ := own9 B1.out
  have T1 := hid (texts_any ((rt_own B1.out).later (ba w1 (.cells #[.string ⟨#[97]⟩, .string ⟨#[98, 32, 99]⟩] 9))) (rt_two w1 [97] [98, 32, 99]) (by simp [Ans.ws]) (by simp))
  have A2 := hid (B1.out.tail.alloc (.cells #[.string ⟨#[97]⟩, .string ⟨#[98, 32, 99]⟩] 9))
  clear B1
  go_wp2_with (go_at_call 7; refine T1.out.mono ?_; rintro e w2 ⟨rfl, q2, rfl⟩; have B2 := hid (A2.out.drewN q2); refine Hid.out ?_)
  refine hid ?_
  clear A2 T1
  have dc : decide ((Ans.ok [[97], [98, 32, 99]]).ws = [[97], [98, 32, 99]]) = true := by decide
  rw [dc]
  clear dc
  generalize hw2 : (World.drewN _ q2) = w2 at *
  clear hw2
  go_wp2_with (go_at_call 6; refine (SP.out _ _ B2.out).mono ?_; rintro e w3 ⟨va, rfl, A3⟩; have B3 := hid A3; clear A3; refine Hid.out ?_)
  refine hid ?_
  go_wp2_with (go_at_call 8; refine (RS.out _ _ B3.out).mono ?_; rintro e w4 ⟨vw, rfl, A4⟩; have B4 := hid A4; clear A4; refine Hid.out ?_)
  refine hid ?_
  obtain ⟨aoa, ca, rfl⟩ := own9 B4.out.tail
  obtain ⟨aow, cw, rfl⟩ := own9 B4.out
  have T2 := hid (texts_same (rt_own B4.out.tail) (rt_own B4.out) (by omega))
  clear B3 B2
  generalize hnl : wl.length = nl at *
  have HNL := hid hnl
  clear hnl
  go_wp2_with (go_at_call 7; refine T2.out.mono ?_; rintro e w5 ⟨rfl, q5, rfl⟩; have B5 := hid (B4.out.drewN q5); refine Hid.out ?_)
  refine hid ?_
  clear B4 T2
  generalize hw5 : (World.drewN _ q5) = w5 at *
  clear hw5
  go_wp2_with (go_at_call 6; refine (SM.out _ _ B5.out).mono ?_; rintro e w6 ⟨vb, rfl, A6⟩; have B6 := hid A6; clear A6; refine Hid.out ?_)
  refine hid ?_
  go_wp2_with (go_at_call 8; refine (RM.out _ _ B6.out).mono ?_; rintro e w7 ⟨vx, rfl, A7⟩; have B7 := hid A7; clear A7; refine Hid.out ?_)
  refine hid ?_
  obtain ⟨aob, cb, rfl⟩ := own9 B7.out.tail
  obtain ⟨aox, cx, rfl⟩ := own9 B7.out
  have T3 := hid (texts_same (rt_own B7.out.tail) (rt_own B7.out) (by omega))
  clear B5 B6
  generalize hnm : wm.length = nm at *
  have HNM := hid hnm
  clear hnm
  go_wp2_with (go_at_call 7; refine T3.out.mono ?_; rintro e w8 ⟨rfl, q8, rfl⟩; have B8 := hid (B7.out.drewN q8); refine Hid.out ?_)
  refine hid ?_
  clear B7 T3
  generalize hw8 : (World.drewN _ q8) = w8 at *
  clear hw8
  have T4 := hid (texts_same (rt_own B8.out.tail.tail.tail) (rt_own B8.out.tail.tail) (by rw [HNL.out]; omega))
  go_wp2_with (go_at_call 7; refine T4.out.mono ?_; rintro e w9 ⟨rfl, q9, rfl⟩; have B9 := hid (B8.out.drewN q9); refine Hid.out ?_)
  refine hid ?_
  clear B8 T4
  generalize hw9 : (World.drewN _ q9) = w9 at *
  clear hw9
  have S1 := hid (spoil_any (x := [42, 49]) (B9.out.perm (List.perm_middle (l₁ := [_, _, _]))) (by rw [HNL.out]; omega))
  clear B9
  go_wp2_with (go_at_call 9; refine S1.out.mono ?_; rintro e w10 ⟨va2, rfl, A10⟩; have B10 := hid A10; clear A10; refine Hid.out ?_)
  refine hid ?_
  clear S1
  have S2 := hid (spoil_any (x := [42, 50]) (B10.out.perm (List.perm_middle (l₁ := [_, _]))) (by rw [HNM.out]; omega))
  clear B10
  go_wp2_with (go_at_call 9; refine S2.out.mono ?_; rintro e w11 ⟨vb2, rfl, A11⟩; have B11 := hid A11; clear A11; refine Hid.out ?_)
  refine hid ?_
  clear S2
  go_wp2_with (go_at_call 6; refine (SP.out _ _ B11.out).mono ?_; rintro e w12 ⟨vc, rfl, A12⟩; have B12 := hid A12; clear A12; refine Hid.out ?_)
  refine hid ?_
  clear B11
  obtain ⟨aoc, cc, rfl⟩ := own9 B12.out
  have T5 := hid (texts_same (rt_own B12.out) (rt_own B12.out.tail.tail.tail.tail) (by rw [HNL.out]; omega))
  go_wp2_with (go_at_call 7; refine T5.out.mono ?_; rintro e w13 ⟨rfl, q13, rfl⟩; have B13 := hid (B12.out.drewN q13); refine Hid.out ?_)
  refine hid ?_
  clear B12 T5
  generalize hw13 : (World.drewN _ q13) = w13 at *
  clear hw13
  have F1 := hid (full_any (rt_own B13.out.tail.tail) (by rw [HNL.out]; omega))
  have F2 := hid (full_any (rt_own B13.out.tail) (by rw [HNM.out]; omega))
  have fin := hid (B13.out.into (w0 := w) (by simp))
  clear B13
  go_wp2_with (go_at_call 10; refine F1.out.mono ?_; rintro e w14 ⟨rfl, rfl⟩; refine Hid.out ?_)
  refine hid ?_
  go_wp2_with (go_at_call 10; refine F2.out.mono ?_; rintro e w14 ⟨rfl, rfl⟩; refine Hid.out ?_)
  refine hid ?_
  go_wp2
  go_ret
  exact ⟨rfl, fin.out⟩
end Go.Proofs.Ytgmjjopfpenceaa

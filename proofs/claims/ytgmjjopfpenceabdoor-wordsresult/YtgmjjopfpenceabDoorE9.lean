import Derived.Test.YtgmjjopfpenceabDoorE8
import Derived.Deep.CutRange
namespace Go.Proofs.YtgmjjopfpenceabDoor
open Go.RowKit
set_option linter.unusedVariables false

theorem dig_len : ∀ n : Nat, (Lib.decDigits n).length ≤ n + 1 := by
  intro n
  induction n using Nat.strongRecOn with
  | _ n ih =>
    rw [Lib.decDigits]
    split
    · simp
    · have := ih (n / 10) (by omega)
      simp only [List.length_append, List.length_cons, List.length_nil]
      omega
theorem cdN_len {k : Nat} (h : k < 5) : (cdN.getD k []).length ≤ 5 := by
  obtain rfl | rfl | rfl | rfl | rfl : k = 0 ∨ k = 1 ∨ k = 2 ∨ k = 3 ∨ k = 4 := by omega
  all_goals decide
theorem resA_len (c n : Int) (l : Ws) : (resA c n l).length ≤ 11 := by
  unfold resA
  split
  · simp
  · rename_i h
    obtain ⟨_, _, _, _, _, h8, _⟩ := chk_zero (Classical.byContradiction h)
    unfold resW
    split <;> simp only [List.length_cons, List.length_nil] <;> omega
theorem resA_mem {c n : Int} {l : Ws} {x : List UInt8} (hx : x ∈ resA c n l) : x.length ≤ 140737488355328 := by
  unfold resA at hx
  split at hx
  · simp at hx
  · rename_i h
    obtain ⟨h0, h4, _, _, hn, h8, h64⟩ := chk_zero (Classical.byContradiction h)
    unfold resW at hx
    rcases List.mem_cons.1 hx with rfl | hx
    · have := cdN_len (k := c.toNat) (by omega)
      omega
    · split at hx
      · rcases List.mem_cons.1 hx with rfl | hx
        · have := dig_len n.toNat
          omega
        rcases List.mem_cons.1 hx with rfl | hx
        · have := dig_len l.length
          omega
        have := h64 x hx
        omega
      · simp at hx

set_option maxHeartbeats 3200000 in
set_option maxRecDepth 1000000 in
theorem result_law {c n : Int} {s b : Value} {l bw : Ws} {w : World} (V : Vars w) (D : Cd w) (hs : Rt w s l) (hb : Rt w b bw) (hl : l.length * 16 ≤ 140737488351232) (hx : ∀ x ∈ l, x.length ≤ 140737488355328) (hbl : bw.length * 16 ≤ 140737488351232) (hbx : ∀ x ∈ bw, x.length ≤ 140737488355328) :
    Calls Tryd.prog 3 #[resV c n s, b] w fun e w' => e = .returned (.bool true) ∧ Below w.heap.size w w' := by
  obtain ⟨ao, cc, rfl⟩ := hs.form
  obtain ⟨aob, cb, rfl⟩ := hb.form
  have hR11 := resA_len c n l
  have hRx : ∀ x ∈ resA c n l, x.length ≤ 140737488355328 := fun x h => resA_mem h
  have A0 := (All.came w).addBlk [.int .i64 c, .int .i64 n, .slice ao l.length cc] 24
  have VV : Hid (∀ cs W, All cs W → inC w ∈ cs → Vars W ∧ Cd W ∧ Rt W (.slice ao l.length cc) l ∧ Rt W (.slice aob bw.length cb) bw) := hid (fun cs W h hm => ⟨V.later (h.into hm), D.later (h.into hm), hs.later (h.into hm), hb.later (h.into hm)⟩)
  obtain ⟨ao1, c1, w1, hr, A1⟩ := appR (l := []) (All.addNil (e := 9) A0.drew) (VV.out _ _ A0.drew (by simp)).2.2.1 (by simp; omega)
  simp only [List.length_nil, Nat.zero_add, List.nil_append] at hr A1
  have R1 : Hid ((Builtin.append_ #[22, 22] 22 #[.slice none 0 0, .slice ao l.length cc]).run Tryd.prog (w.alloc (.cells #[.int .i64 c, .int .i64 n, .slice ao l.length cc] 24)).drew = .ok (.slice ao1 l.length c1) w1) := hid hr
  have B1 := hid A1
  have B2 := hid (A1.addBlk [.int .i64 c, .int .i64 n, .slice ao1 l.length c1] 24)
  have esz : (w.alloc (.cells #[.int .i64 c, .int .i64 n, .slice ao l.length cc] 24)).heap.size = w.heap.size + 1 := by simp
  have A0z := A0.addBlk [.int .i64 0, .int .i64 0, .slice none 0 0] 24
  obtain ⟨ao2, c2, w2, hr2, A2⟩ := appR (l := []) (All.addNil (e := 9) A0z.drew) (VV.out _ _ A0z.drew (by simp)).2.2.1 (by simp; omega)
  simp only [List.length_nil, Nat.zero_add, List.nil_append] at hr2 A2
  rw [esz] at A2
  have R2 : Hid ((Builtin.append_ #[22, 22] 22 #[.slice none 0 0, .slice ao l.length cc]).run Tryd.prog ((w.alloc (.cells #[.int .i64 c, .int .i64 n, .slice ao l.length cc] 24)).alloc (.cells #[.int .i64 0, .int .i64 0, .slice none 0 0] 24)).drew = .ok (.slice ao2 l.length c2) w2) := hid hr2
  have E2 := hid A2.swap
  clear A0z hr2 A2
  clear esz
  have C5 : Hid (∀ v cs W, All cs W → inC w ∈ cs → (∀ W, All cs W → Rt W v l) → Calls Tryd.prog 5 #[resV c n v] W fun e w' => ∃ v', e = .returned (.tuple #[v', .int .i64 (chkW c n l)]) ∧ All (ownC 9 v' (txW (resA c n l)) :: cs) w') := hid (fun v cs W h hm hR => Result_any h hR (fun W h => (VV.out _ _ h hm).1) (fun W h => (VV.out _ _ h hm).2.1) (by omega))
  have C6 : Hid (∀ cs W, All cs W → inC w ∈ cs → Calls Tryd.prog 6 #[resV c n (.slice ao l.length cc)] W fun e w' => ∃ v', e = .returned (.tuple #[v', .int .i64 (chkW c n l)]) ∧ All (ownC 9 v' (txW (resA c n l)) :: cs) w') := hid (fun cs W h hm => rResult_any h (fun W h => (VV.out _ _ h hm).2.2.1) (by omega))
  have C7 : Hid (∀ x y cs W, All cs W → Rt W x (resA c n l) → Rt W y (resA c n l) → Calls Tryd.prog 7 #[x, y] W fun e w' => e = .returned (.bool true) ∧ All cs w') := hid (fun x y cs W h h1 h2 => (texts_same h1 h2 (by omega)).mono fun e w' ⟨he, q, hq⟩ => ⟨he, hq ▸ h.drewN q⟩)
  have C7b : Hid (∀ x y cs W, All cs W → Rt W x (resA c n l ++ bw) → Rt W y (resA c n l ++ bw) → Calls Tryd.prog 7 #[x, y] W fun e w' => e = .returned (.bool true) ∧ All cs w') := hid (fun x y cs W h h1 h2 => (texts_same h1 h2 (by rw [List.length_append]; omega)).mono fun e w' ⟨he, q, hq⟩ => ⟨he, hq ▸ h.drewN q⟩)
  have C8 : Hid (∀ x y cs W, All cs W → Rt W x l → Rt W y l → Calls Tryd.prog 8 #[resV c n x, resV c n y] W fun e w' => e = .returned (.bool true) ∧ All cs w') := hid (fun x y cs W h h1 h2 => (results_same h1 h2 (by omega)).mono fun e w' ⟨he, hb⟩ => ⟨he, h.later hb⟩)
  have AP2 : Hid (∀ v4 cs W, All (ownC 9 v4 (txW (resA c n l)) :: cs) W → inC w ∈ cs → ∃ va wa, (Builtin.append_ #[22, 22] 22 #[.slice none 0 0, v4]).run Tryd.prog W = .ok va wa ∧ ∃ vb wb, (Builtin.append_ #[22, 22] 22 #[va, .slice aob bw.length cb]).run Tryd.prog wa = .ok vb wb ∧ All (ownC 9 vb (txW (resA c n l ++ bw)) :: ownC 9 v4 (txW (resA c n l)) :: cs) wb) := hid (fun v4 cs W h hm => by
    obtain ⟨aa, ca, wa, hra, Aa⟩ := appR (l := []) (All.addNil (e := 9) h) (rt_own h) (by simp; omega)
    simp only [List.length_nil, Nat.zero_add, List.nil_append] at hra Aa
    obtain ⟨ab, cb', wb, hrb, Ab⟩ := appR Aa (VV.out _ _ Aa (by simp [hm])).2.2.2 (by omega)
    exact ⟨_, wa, hra, _, wb, hrb, Ab⟩)
  have R10 : Hid (chkW c n l = 0 → ∀ v cs W, All (ownC 9 v (txW (resA c n l ++ bw)) :: cs) W → inC w ∈ cs → Calls Tryd.prog 10 #[v] W fun e w' => ∃ vr, e = .returned (.tuple #[resV c n vr, .int .i64 ((resA c n l).length : Int), .int .i64 0]) ∧ All (ownC 9 vr (txW l) :: ownC 9 v (txW (resA c n l ++ bw)) :: cs) w') := hid (fun hX v cs W h hm => by
    have := ReadResult_any h (VV.out _ _ h (by simp [hm])).1 (VV.out _ _ h (by simp [hm])).2.1 (rt_own h) (by rw [List.length_append]; omega) (fun x hx => (List.mem_append.1 hx).elim (hRx x) (hbx x))
    rw [readR_back hX] at this
    exact this)
  have SP1 : Hid (∀ v cs W, All (ownC 9 v (txW (resA c n l)) :: cs) W → Calls Tryd.prog 9 #[v, .string ⟨#[42, 49]⟩] W fun e w' => ∃ v', e = .returned v' ∧ All cs w') := hid (fun v cs W h => (spoil_any (x := [42, 49]) h (by omega)).mono fun e w' ⟨v', he, hA⟩ => ⟨v', he, hA.tail⟩)
  have SP2 : Hid (l.length ≤ 8 → ∀ v cs W, All (ownC 9 v (txW l) :: cs) W → Calls Tryd.prog 9 #[v, .string ⟨#[42, 50]⟩] W fun e w' => ∃ v', e = .returned v' ∧ All cs w') := hid (fun hl8 v cs W h => (spoil_any (x := [42, 50]) h (by omega)).mono fun e w' ⟨v', he, hA⟩ => ⟨v', he, hA.tail⟩)
  have XE : Hid (chkW c n l = 0 → l.length ≤ 8) := hid (fun h => (chk_zero h).2.2.2.2.2.1)
  have exx : (chkW c n l != chkW c n l) = false := by simp
  clear hr A1 A0 V D hs hb hl hx hbl hbx hR11 hRx
  generalize chkW c n l = XX at *
  generalize hRR : resA c n l = R at *
  clear hRR
  generalize hnl : l.length = nl at *
  have HNL := hid hnl
  clear hnl
  generalize bw.length = nb at *
  go_enter Tryd.func3, Tryd.ntmps3
  go_upto_region 1 with fail
  go_cut [5] from 13 to 21 (fun pv wx => ∃ B ao1 c1, pv = .pointer (some ⟨B, 0, none⟩) ∧ Hid (All (blkC B [.int .i64 c, .int .i64 n, .slice ao1 nl c1] 24 :: ownC 9 (.slice ao1 nl c1) (txW l) :: blkC w.heap.size [.int .i64 c, .int .i64 n, .slice ao nl cc] 24 :: [inC w]) wx))
  case first =>
    clear C5 C6 C7 C7b C8 AP2 R10 SP1 SP2 XE VV
    obtain ⟨p0, p1, p2, p3⟩ := blkm B1.out (.tail _ (.head _))
    obtain ⟨⟨z0, z1, z2⟩, f0, f1, f2, hlt⟩ := zero_blk E2.out
    obtain ⟨q0, q1, q2, q3⟩ := blkm E2.out (.tail _ (.tail _ (.head _)))
    go_region_law (first | (refine step_append_run (by rfl) _ (.tmp 18) 22 (by rfl) _ _ _ _ (by rfl) (by rfl) R1.out ?_) | (refine step_append_run (by rfl) _ (.tmp 18) 22 (by rfl) _ _ _ _ (by rfl) (by rfl) R2.out ?_))
    all_goals (go_wp2_with fail; go_meet)
    all_goals first | exact ⟨_, _, _, rfl, B2⟩ | exact ⟨_, _, _, rfl, hid (set3 E2.out)⟩
  case rest =>
  clear R1 B1 B2 R2 E2
  obtain ⟨B5, ao5, c5, rfl, K2⟩ := hcut
  obtain ⟨r0, r1, r2, r3⟩ := blkm K2.out (.head _)
  have P5 := hid (C5.out _ _ _ K2.out (by simp) (fun W h => rt_mem h (.tail _ (.head _))))
  clear C5
  go_wp2_with (go_at_call 5; refine P5.out.mono ?_; rintro e w3 ⟨v3, rfl, A3⟩; obtain ⟨ao3, c3, rfl⟩ := own9 A3; have K3 := hid A3; clear A3; refine Hid.out ?_)
  refine hid ?_
  clear K2 P5 r0 r1 r2 r3
  obtain ⟨r0, r1, r2, r3⟩ := blkm K3.out (.tail _ (.tail _ (.tail _ (.head _))))
  have P6 := hid (C6.out _ _ K3.out (by simp))
  clear C6
  go_wp2_with (go_at_call 6; refine P6.out.mono ?_; rintro e w4 ⟨v4, rfl, A4⟩; obtain ⟨ao4, c4, rfl⟩ := own9 A4; have K4 := hid A4; clear A4; refine Hid.out ?_)
  refine hid ?_
  clear K3 P6 r0 r1 r2 r3
  have P7 := hid (C7.out _ _ _ _ K4.out (rt_mem K4.out (.tail _ (.head _))) (rt_own K4.out))
  clear C7
  generalize hNR : R.length = NR at *
  have HNR := hid hNR
  clear hNR
  go_wp2_with (go_at_call 7; refine P7.out.mono ?_; rintro e w5 ⟨rfl, A5⟩; have K5 := hid A5; clear A5; refine Hid.out ?_)
  refine hid ?_
  clear K4 P7
  obtain ⟨r0, r1, r2, r3⟩ := blkm K5.out (.tail _ (.tail _ (.head _)))
  obtain ⟨s0, s1, s2, s3⟩ := blkm K5.out (.tail _ (.tail _ (.tail _ (.tail _ (.head _)))))
  have P8 := hid (C8.out _ _ _ _ K5.out (rt_mem K5.out (.tail _ (.tail _ (.tail _ (.head _))))) (VV.out _ _ K5.out (by simp)).2.2.1)
  go_wp2_with (go_at_call 8; refine P8.out.mono ?_; rintro e w6 ⟨rfl, A6⟩; have K6 := hid A6; clear A6; refine Hid.out ?_)
  refine hid ?_
  clear K5 P8 r0 r1 r2 r3 s0 s1 s2 s3
  by_cases hX : XX = 0
  · subst hX
    have S1 := hid (SP1.out _ _ _ K6.out.swap)
    clear SP1
    go_wp2_with (go_at_call 9; refine S1.out.mono ?_; rintro e w7 ⟨v7, rfl, A7⟩; have K7 := hid A7; clear A7; refine Hid.out ?_)
    refine hid ?_
    clear K6 S1
    obtain ⟨r0, r1, r2, r3⟩ := blkm K7.out (.tail _ (.head _))
    obtain ⟨s0, s1, s2, s3⟩ := blkm K7.out (.tail _ (.tail _ (.tail _ (.head _))))
    have P8 := hid (C8.out _ _ _ _ K7.out (rt_mem K7.out (.tail _ (.tail _ (.head _)))) (VV.out _ _ K7.out (by simp)).2.2.1)
    go_wp2_with (go_at_call 8; refine P8.out.mono ?_; rintro e w8 ⟨rfl, A8⟩; have K8 := hid A8; clear A8; refine Hid.out ?_)
    refine hid ?_
    clear K7 P8 r0 r1 r2 r3 s0 s1 s2 s3
    obtain ⟨va, wa, hra, vb, wb, hrb, A9⟩ := AP2.out _ _ _ K8.out (by simp)
    have RA := hid hra
    have RB := hid hrb
    have K9 := hid A9
    clear hra hrb A9 K8
    go_wp2_with (at_builtin; refine wpList_append_run rfl _ _ 22 rfl _ _ _ _ rfl rfl RA.out ?_; refine Hid.out ?_)
    refine hid ?_
    go_wp2_with (at_builtin; refine wpList_append_run rfl _ _ 22 rfl _ _ _ _ rfl rfl RB.out ?_; refine Hid.out ?_)
    refine hid ?_
    clear RA RB
    have P10 := hid (R10.out trivial _ _ _ K9.out (by simp))
    clear R10
    go_wp2_with (go_at_call 10; refine P10.out.mono ?_; rintro e w11 ⟨v11, rfl, A11⟩; obtain ⟨ao11, c11, hv11⟩ := own9 A11; rw [HNL.out] at hv11; subst hv11; have A11h := hid A11; have K11 := hid (A11.addBlk [.int .i64 c, .int .i64 n, .slice ao11 nl c11] 24); clear A11; refine Hid.out ?_)
    refine hid ?_
    clear K9 P10
    obtain ⟨s0, s1, s2, s3⟩ := blkm A11h.out (.tail _ (.tail _ (.tail _ (.tail _ (.tail _ (.head _))))))
    obtain ⟨t0, t1, t2, t3⟩ := blkm K11.out (.tail _ (.tail _ (.tail _ (.tail _ (.tail _ (.tail _ (.head _)))))))
    have P8 := hid (C8.out _ _ _ _ K11.out (rt_mem K11.out (.tail _ (.head _))) (VV.out _ _ K11.out (by simp)).2.2.1)
    clear A11h
    have e1 : ((NR : Int) != (NR : Int)) = false := by simp
    go_wp2_with (go_at_call 8; refine P8.out.mono ?_; rintro e w12 ⟨rfl, A12⟩; have K12 := hid A12; clear A12; refine Hid.out ?_)
    refine hid ?_
    clear K11 P8 s0 s1 s2 s3 t0 t1 t2 t3
    obtain ⟨r0, r1, r2, r3⟩ := blkm K12.out (.head _)
    have S2 := hid (SP2.out (XE.out trivial) _ _ _ K12.out.swap)
    clear SP2
    go_wp2_with (go_at_call 9; refine S2.out.mono ?_; rintro e w13 ⟨v13, rfl, A13⟩; have K13 := hid (A13.tail.swap); clear A13; refine Hid.out ?_)
    refine hid ?_
    clear K12 S2 r0 r1 r2 r3
    obtain ⟨vc, wc, hrc, vd, wd, hrd, A14⟩ := AP2.out _ _ _ K13.out (by simp)
    have RC := hid hrc
    have RD := hid hrd
    have K14 := hid A14
    clear hrc hrd A14 K13
    go_wp2_with (at_builtin; refine wpList_append_run rfl _ _ 22 rfl _ _ _ _ rfl rfl RC.out ?_; refine Hid.out ?_)
    refine hid ?_
    go_wp2_with (at_builtin; refine wpList_append_run rfl _ _ 22 rfl _ _ _ _ rfl rfl RD.out ?_; refine Hid.out ?_)
    refine hid ?_
    clear RC RD
    have P7 := hid (C7b.out _ _ _ _ K14.out (rt_mem K14.out (.tail _ (.tail _ (.head _)))) (rt_own K14.out))
    go_wp2_with (go_at_call 7; refine P7.out.mono ?_; rintro e w15 ⟨rfl, A15⟩; have K15 := hid A15; clear A15; refine Hid.out ?_)
    refine hid ?_
    have fin := hid (K15.out.into (w0 := w) (by simp))
    clear K14 K15 P7 VV
    go_wp2
    go_ret
    exact ⟨rfl, fin.out⟩
  · have hX' : (XX != 0) = true := by simpa using hX
    clear hX
    have fin := hid (K6.out.into (w0 := w) (by simp))
    clear K6 VV
    go_wp2
    go_ret
    exact ⟨rfl, fin.out⟩
end Go.Proofs.YtgmjjopfpenceabDoor

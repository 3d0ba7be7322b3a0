import Derived.Test.YtgmjjopfpenceaaDoorD9
namespace Go.Proofs.YtgmjjopfpenceaaDoor
open Go.RowKit
set_option linter.unusedVariables false

theorem perm5 {α : Type} (a b c d e : α) (cs : List α) : (a :: b :: c :: d :: e :: cs).Perm (e :: a :: b :: c :: d :: cs) := by
  refine List.Perm.trans ?_ (List.perm_middle (l₁ := [a, b, c, d]) (a := e) (l₂ := cs))
  exact List.Perm.refl _

set_option maxHeartbeats 3200000 in
set_option maxRecDepth 1000000 in
theorem op_law {k n m : Int} {nm tx : List UInt8} {b : Value} {bw : Ws} {w : World} (V : Vars w) (T : Tab w) (F : Wf w) (hb : Rt w b bw) (hbl : bw.length * 16 ≤ 140737488351232) (hbx : ∀ x ∈ bw, x.length ≤ 140737488355328) :
    Calls Tryd.prog 4 #[opV k ⟨nm.toArray⟩ ⟨tx.toArray⟩ n m, b] w fun e w' => e = .returned (.bool true) ∧ Below w.heap.size w w' := by
  obtain ⟨aob, cb, rfl⟩ := hb.form
  have hR4 := opA_len k n m nm tx
  have A0 := hid ((All.came w).addBlk [.int .i64 k, .string ⟨nm.toArray⟩, .string ⟨tx.toArray⟩, .int .i64 n, .int .i64 m] 27)
  have VV : Hid (∀ cs W, All cs W → inC w ∈ cs → Vars W ∧ Tab W ∧ Wf W ∧ Rt W (.slice aob bw.length cb) bw) := hid (fun cs W h hm => ⟨V.later (h.into hm), T.below (h.into hm), F.later (h.into hm), hb.later (h.into hm)⟩)
  have C9 : Hid (∀ cs W, All cs W → inC w ∈ cs → Calls Tryd.prog 9 #[opV k ⟨nm.toArray⟩ ⟨tx.toArray⟩ n m] W fun e w' => ∃ v', e = .returned (.tuple #[v', .int .i64 (chkO k nm tx n m)]) ∧ All (ownC 9 v' (txW (opA k nm tx n m)) :: cs) w') := hid (fun cs W h hm => Op_any h (fun W h => (VV.out _ _ h hm).1) (fun W h => (VV.out _ _ h hm).2.1) (fun W h => (VV.out _ _ h hm).2.2.1))
  have C10 : Hid (∀ cs W, All cs W → Calls Tryd.prog 10 #[opV k ⟨nm.toArray⟩ ⟨tx.toArray⟩ n m] W fun e w' => ∃ v', e = .returned (.tuple #[v', .int .i64 (chkO k nm tx n m)]) ∧ All (ownC 9 v' (txW (opA k nm tx n m)) :: cs) w') := hid (fun cs W h => rOp_any h)
  have C11 : Hid (∀ x y cs W, All cs W → Rt W x (opA k nm tx n m) → Rt W y (opA k nm tx n m) → Calls Tryd.prog 11 #[x, y] W fun e w' => e = .returned (.bool true) ∧ All cs w') := hid (fun x y cs W h h1 h2 => (texts_same h1 h2 (by omega)).mono fun e w' ⟨he, q, hq⟩ => ⟨he, hq ▸ h.drewN q⟩)
  have AP2 : Hid (∀ v4 cs W, All (ownC 9 v4 (txW (opA k nm tx n m)) :: cs) W → inC w ∈ cs → ∃ va wa, (Builtin.append_ #[28, 28] 28 #[.slice none 0 0, v4]).run Tryd.prog W = .ok va wa ∧ ∃ vb wb, (Builtin.append_ #[28, 28] 28 #[va, .slice aob bw.length cb]).run Tryd.prog wa = .ok vb wb ∧ All (ownC 9 vb (txW (opA k nm tx n m ++ bw)) :: ownC 9 v4 (txW (opA k nm tx n m)) :: cs) wb) := hid (fun v4 cs W h hm => by
    obtain ⟨aa, ca, wa, hra, Aa⟩ := appR (l := []) (All.addNil (e := 9) h) (rt_own h) (by simp; omega)
    simp only [List.length_nil, Nat.zero_add, List.nil_append] at hra Aa
    obtain ⟨ab, cb', wb, hrb, Ab⟩ := appR Aa (VV.out _ _ Aa (by simp [hm])).2.2.2 (by omega)
    exact ⟨_, wa, hra, _, wb, hrb, Ab⟩)
  have R12 : Hid (chkO k nm tx n m = 0 → ∀ v cs W, All (ownC 9 v (txW (opA k nm tx n m ++ bw)) :: cs) W → inC w ∈ cs → Calls Tryd.prog 12 #[v] W fun e w' => e = .returned (.tuple #[opV k ⟨nm.toArray⟩ ⟨tx.toArray⟩ n m, .int .i64 ((opA k nm tx n m).length : Int), .int .i64 0]) ∧ All (ownC 9 v (txW (opA k nm tx n m ++ bw)) :: cs) w') := hid (fun hX v cs W h hm => by
    have := ReadOp_any h (fun W h => rt_own h) (fun W h => (VV.out _ _ h (by simp [hm])).1) (fun W h => (VV.out _ _ h (by simp [hm])).2.1) (fun W h => (VV.out _ _ h (by simp [hm])).2.2.1) (by rw [List.length_append]; omega) (fun x hx => (List.mem_append.1 hx).elim (fun h => opA_mem h) (hbx x))
    rw [readO_back hX] at this
    obtain ⟨_, _, hn0, _, hm0, _, _⟩ := chkO_zero hX
    unfold ROPost at this
    simp only at this
    rw [show ((n.toNat : Nat) : Int) = n by omega, show ((m.toNat : Nat) : Int) = m by omega] at this
    exact this)
  have SP : Hid (∀ v cs W, All (ownC 9 v (txW (opA k nm tx n m)) :: cs) W → Calls Tryd.prog 13 #[v, .string ⟨#[42]⟩] W fun e w' => ∃ v', e = .returned v' ∧ All (ownC 9 v' (txW (List.replicate ((opA k nm tx n m).length + 4) [42])) :: cs) w') := hid (fun v cs W h => spoil_any (x := [42]) h (by omega))
  have FU : Hid (∀ v cs W, All (ownC 9 v (txW (List.replicate ((opA k nm tx n m).length + 4) [42])) :: cs) W → Calls Tryd.prog 14 #[v, .string ⟨#[42]⟩] W fun e w' => e = .returned (.bool true) ∧ w' = W) := hid (fun v cs W h => full_any (x := [42]) (rt_own h) (by omega))
  have exx : (chkO k nm tx n m != chkO k nm tx n m) = false := by simp
  clear V T F hb hbl hbx hR4
  generalize chkO k nm tx n m = XX at *
  generalize opA k nm tx n m = R at *
  generalize bw.length = nb at *
  generalize ByteArray.mk nm.toArray = X1 at *
  generalize ByteArray.mk tx.toArray = X2 at *
  generalize List.replicate (R.length + 4) [42] = RP at *
  have Q9 := hid (C9.out _ _ A0.out (by simp))
  go_enter Tryd.func4, Tryd.ntmps4
  go_wp2_with (go_at_call 9; refine Q9.out.mono ?_; rintro e w1 ⟨v5, rfl, A1⟩; have K1 := hid A1; clear A1; refine Hid.out ?_)
  refine hid ?_
  clear A0 Q9
  obtain ⟨r0, r1, r2, r3, r4, r5⟩ := blk5 K1.out (.tail _ (.head _))
  have Q10 := hid (C10.out _ _ K1.out)
  clear C10
  go_wp2_with (go_at_call 10; refine Q10.out.mono ?_; rintro e w2 ⟨v7, rfl, A2⟩; obtain ⟨ao7, c7, rfl⟩ := own9 A2; have K2 := hid A2; clear A2; refine Hid.out ?_)
  refine hid ?_
  clear K1 Q10 r0 r1 r2 r3 r4 r5
  have Q11 := hid (C11.out _ _ _ _ K2.out (rt_mem K2.out (.tail _ (.head _))) (rt_own K2.out))
  generalize hNR : R.length = NR at *
  clear hNR
  go_wp2_with (go_at_call 11; refine Q11.out.mono ?_; rintro e w3 ⟨rfl, A3⟩; have K3 := hid A3; clear A3; refine Hid.out ?_)
  refine hid ?_
  clear K2 Q11
  by_cases hX : XX = 0
  · subst hX
    obtain ⟨va, wa, hra, vb, wb, hrb, A4⟩ := AP2.out _ _ _ K3.out (by simp)
    have RA := hid hra
    have RB := hid hrb
    have K4 := hid A4
    have Q12 := hid (R12.out rfl _ _ _ A4 (by simp))
    clear hra hrb A4 K3 AP2 R12
    go_wp2_with (at_builtin; refine wpList_append_run rfl _ _ 28 rfl _ _ _ _ rfl rfl RA.out ?_; refine Hid.out ?_)
    refine hid ?_
    go_wp2_with (at_builtin; refine wpList_append_run rfl _ _ 28 rfl _ _ _ _ rfl rfl RB.out ?_; refine Hid.out ?_)
    refine hid ?_
    clear RA RB
    go_wp2_with (go_at_call 12; refine Q12.out.mono ?_; rintro e w5 ⟨rfl, A5⟩; have A5h := hid A5; have K5 := hid (A5.addBlk [.int .i64 k, .string X1, .string X2, .int .i64 n, .int .i64 m] 27); clear A5; refine Hid.out ?_)
    refine hid ?_
    clear K4 Q12
    obtain ⟨r0, r1, r2, r3, r4, r5⟩ := blk5 A5h.out (.tail _ (.tail _ (.tail _ (.head _))))
    obtain ⟨s0, s1, s2, s3, s4, s5⟩ := blk5 K5.out (.tail _ (.tail _ (.tail _ (.tail _ (.head _)))))
    have Q9 := hid (C9.out _ _ K5.out (by simp))
    clear A5h
    have e1 : ((NR : Int) != (NR : Int)) = false := by simp
    have e2 : (k == k) = true := by simp
    have e3 : (X1.toList == X1.toList) = true := by simp
    have e4 : (X2.toList == X2.toList) = true := by simp
    have e5 : (n == n) = true := by simp
    have e6 : (m == m) = true := by simp
    go_wp2_with (go_at_call 9; refine Q9.out.mono ?_; rintro e w6 ⟨v11, rfl, A6⟩; have K6 := hid A6; clear A6; refine Hid.out ?_)
    refine hid ?_
    clear K5 Q9 r0 r1 r2 r3 r4 r5 s0 s1 s2 s3 s4 s5 C9
    have Q13 := hid (SP.out _ _ _ (K6.out.perm (perm5 _ _ _ _ _ _)))
    clear SP
    go_wp2_with (go_at_call 13; refine Q13.out.mono ?_; rintro e w7 ⟨v13, rfl, A7⟩; have K7 := hid A7; clear A7; refine Hid.out ?_)
    refine hid ?_
    clear K6 Q13
    have Q11 := hid (C11.out _ _ _ _ K7.out (rt_mem K7.out (.tail _ (.head _))) (rt_mem K7.out (.tail _ (.tail _ (.tail _ (.tail _ (.head _)))))))
    go_wp2_with (go_at_call 11; refine Q11.out.mono ?_; rintro e w8 ⟨rfl, A8⟩; have K8 := hid A8; clear A8; refine Hid.out ?_)
    refine hid ?_
    clear K7 Q11 C11
    have Q14 := hid (FU.out _ _ _ K8.out)
    have fin := hid (K8.out.into (w0 := w) (by simp))
    clear K8 VV FU
    go_wp2_with (go_at_call 14; refine Q14.out.mono ?_; rintro e w9 ⟨rfl, hw9⟩; subst w9; refine Hid.out ?_)
    refine hid ?_
    go_wp2
    go_ret
    exact ⟨rfl, fin.out⟩
  · have hX' : (XX != 0) = true := by simpa using hX
    clear hX
    have fin := hid (K3.out.into (w0 := w) (by simp))
    clear K3 VV
    go_wp2
    go_ret
    exact ⟨rfl, fin.out⟩
end Go.Proofs.YtgmjjopfpenceaaDoor

import Derived.Test.YtfeppannfcbakaaGreatDoorJ12
namespace Go.Proofs.YtfeppannfcbakaaGreatDoor
open Go.RowKit
set_option linter.unusedVariables false

set_option maxHeartbeats 1600000 in
set_option maxRecDepth 1000000 in
theorem rResult_any {c n : Int} {s : Value} {l : Ws} {cs : List Comp} {w : World} (A : All cs w) (hR : ∀ W, All cs W → Rt W s l) (hl : l.length ≤ 140737488355328) :
    Calls Tryz.prog 65 #[resV c n s] w (WRPost (resA c n l) (chkW c n l) cs) := by
  obtain ⟨ao, cc, rfl⟩ := (hR w A).form
  have A0 := hid (A.addBlk [.int .i64 c, .int .i64 n, .slice ao l.length cc] 29)
  have CK := hid (check15 c n (hR _ A0.out.tail) hl)
  by_cases hX : chkW c n l ≠ 0
  · have e1 : resA c n l = [] := by unfold resA; rw [if_pos hX]
    rw [e1]
    have hX' : (chkW c n l != 0) = true := by simpa using hX
    clear e1 hX hR A hl
    generalize chkW c n l = XX at *
    generalize l.length = nl at *
    go_enter Tryz.func65, Tryz.ntmps65
    go_wp2_with (go_at_call 100; refine CK.out.mono ?_; rintro e w1 ⟨rfl, B1⟩; have A1 := hid (A0.out.later B1); clear B1)
    go_ret2
    exact ⟨_, rfl, All.addNil A1.out.tail⟩
  have hX0 : chkW c n l = 0 := Classical.byContradiction hX
  have e1 : resA c n l = resW c.toNat n.toNat l := by unfold resA; rw [if_neg hX]
  obtain ⟨hc0, hc4, hcn, hn0, hn1, hl8, hx64⟩ := chk_zero hX0
  rw [e1]
  rw [hX0] at CK ⊢
  clear hX hX0 e1 A hl hx64
  obtain ⟨k, rfl⟩ := Int.eq_ofNat_of_zero_le hc0
  obtain ⟨m, rfl⟩ := Int.eq_ofNat_of_zero_le hn0
  rw [Int.toNat_natCast, Int.toNat_natCast]
  have hk5 : (k : Int) < 5 := by omega
  have C16 : Hid (∀ W, All (blkC w.heap.size [.int .i64 (k : Int), .int .i64 (m : Int), .slice ao l.length cc] 29 :: cs) W → Calls Tryz.prog 101 #[] W.drew fun e w' => ∃ H, e = .returned (.slice (some ⟨H, 0, none⟩) 5 5) ∧ w'.cell? ⟨H, k, none⟩ = some (.string ⟨(cdN.getD k []).toArray⟩) ∧ w'.cell? ⟨w.heap.size, 0, none⟩ = some (.int .i64 (k : Int)) ∧ Hid (All (blkC w.heap.size [.int .i64 (k : Int), .int .i64 (m : Int), .slice ao l.length cc] 29 :: cs) w')) := hid (fun W hA => by
    refine Calls.mono codes_any ?_
    rintro e w' ⟨rfl, rfl⟩
    have hA' := hA.drew.alloc (.cells (txW cdN).toArray 9)
    refine ⟨_, rfl, ?_, (blk3 hA').1, hid hA'⟩
    obtain ⟨g, o, e, _, hc⟩ := (rt_codes W.drew).at (j := k) (by simp [cdN]; omega)
    simp only [Option.some.injEq, Addr.mk.injEq, and_true] at e
    obtain ⟨rfl, rfl⟩ := e
    simpa using hc)
  have NW : Hid (∀ W, All (blkC w.heap.size [.int .i64 (k : Int), .int .i64 (m : Int), .slice ao l.length cc] 29 :: cs) W → All (ownC 9 (.slice (some ⟨W.heap.size, 0, none⟩) 1 1) (txW [cdN.getD k []]) :: blkC w.heap.size [.int .i64 (k : Int), .int .i64 (m : Int), .slice ao l.length cc] 29 :: cs) (W.alloc (.cells #[.string ⟨(cdN.getD k []).toArray⟩] 9))) := hid (fun W hA => own_new hA [cdN.getD k []] (by simp))
  by_cases hz : k = 0
  · have e2 : resW k m l = [cdN.getD k []] ++ [Lib.decDigits m, Lib.decDigits l.length] ++ l := by unfold resW; rw [if_pos hz]; rfl
    rw [e2]
    have nz : ((k : Int) != 0) = false := by simp [hz]
    have DG : Hid (∀ (v : Value) (x : List UInt8) (j : Nat) W, j ≤ 1099511627776 → Hid (All (ownC 9 v (txW [x]) :: blkC w.heap.size [.int .i64 (k : Int), .int .i64 (m : Int), .slice ao l.length cc] 29 :: cs) W) → Calls Tryz.prog 43 #[.int .i64 (j : Int)] W fun e w' => e = .returned (.string ⟨(Lib.decDigits j).toArray⟩) ∧ (w'.cell? ⟨w.heap.size, 1, none⟩ = some (.int .i64 (m : Int)) ∧ w'.cell? ⟨w.heap.size, 2, none⟩ = some (.slice ao l.length cc)) ∧ Hid (All (ownC 9 v (txW [x]) :: blkC w.heap.size [.int .i64 (k : Int), .int .i64 (m : Int), .slice ao l.length cc] 29 :: cs) w')) := hid (fun v x j W hj hA => by
      refine (Digits_any j W (by omega)).mono ?_
      rintro e w' ⟨rfl, hb⟩
      have hA' := hA.out.later hb
      exact ⟨rfl, (blk3 hA'.tail).2, hid hA'⟩)
    have AP : Hid (∀ (v : Value) W, Hid (All (ownC 9 v (txW [cdN.getD k []]) :: blkC w.heap.size [.int .i64 (k : Int), .int .i64 (m : Int), .slice ao l.length cc] 29 :: cs) W) → ∃ v' w', (Builtin.append_ #[27, 27] 27 #[v, .slice (some ⟨W.heap.size, 0, none⟩) 2 2]).run Tryz.prog (W.alloc (.cells #[.string ⟨(Lib.decDigits m).toArray⟩, .string ⟨(Lib.decDigits l.length).toArray⟩] 9)) = .ok v' w' ∧ Hid (All (ownC 9 v' (txW ([cdN.getD k []] ++ [Lib.decDigits m, Lib.decDigits l.length])) :: blkC w.heap.size [.int .i64 (k : Int), .int .i64 (m : Int), .slice ao l.length cc] 29 :: cs) w')) := hid (fun v W hA => by
      have h1 := own_new hA.out [Lib.decDigits m, Lib.decDigits l.length] (by simp)
      obtain ⟨ao', c', w', hr, hA'⟩ := appR h1.swap (rt_own h1) (by simp)
      exact ⟨_, w', hr, hid hA'.del⟩)
    have A8 : Hid (∀ (v : Value) W, Hid (All (ownC 9 v (txW ([cdN.getD k []] ++ [Lib.decDigits m, Lib.decDigits l.length])) :: blkC w.heap.size [.int .i64 (k : Int), .int .i64 (m : Int), .slice ao l.length cc] 29 :: cs) W) → ∃ v' w', (Builtin.append_ #[27, 27] 27 #[v, .slice ao l.length cc]).run Tryz.prog W = .ok v' w' ∧ Hid (All (ownC 9 v' (txW ([cdN.getD k []] ++ [Lib.decDigits m, Lib.decDigits l.length] ++ l)) :: cs) w')) := hid (fun v W hA => by
      obtain ⟨ao', c', w', hr, hA'⟩ := appR hA.out (hR _ hA.out.tail.tail) (by simp; omega)
      exact ⟨_, w', hr, hid hA'.del⟩)
    clear hR e2 hc0 hc4 hcn hn0 hz
    have hm : Hid (m ≤ 1099511627776) := hid (by omega)
    have hll : Hid (l.length ≤ 1099511627776) := hid (by omega)
    generalize ([cdN.getD k []] ++ [Lib.decDigits m, Lib.decDigits l.length] ++ l) = RES at *
    generalize ([cdN.getD k []] ++ [Lib.decDigits m, Lib.decDigits l.length]) = RES1 at *
    generalize ByteArray.mk (cdN.getD k []).toArray = X0 at *
    generalize cdN.getD k [] = L0 at *
    generalize l.length = nl at *
    go_enter Tryz.func65, Tryz.ntmps65
    go_wp2_with (go_at_call 100; refine CK.out.mono ?_; rintro e w1 ⟨rfl, B1⟩; have A1 := hid (A0.out.later B1); clear B1; refine Hid.out ?_)
    refine hid ?_
    obtain ⟨y0, y1, y2⟩ := blk3 A1.out
    have Q16 := hid (C16.out _ A1.out)
    go_wp2
    go_region_law (go_simp; first | (go_at_call 101; refine Q16.out.mono ?_; rintro e w2 ⟨H, rfl, u0, u1, A2⟩))
    all_goals
      have A3 := hid (NW.out _ A2.out)
      obtain ⟨z0, z1, z2⟩ := blk3 A3.out.tail
      clear C16 Q16 A1 y0 y1 y2
      go_wp2
      clear A2 u0 u1 NW
      generalize hw3 : World.alloc w2 _ = w3 at *
      clear hw3
      have A4 := hid A3.out.drew
      go_region_law (first | (go_simp; go_at_call 43; refine (DG.out _ _ _ _ (by first | exact hm.out | exact hll.out) (by assumption)).mono ?_; rintro e w5 ⟨rfl, ⟨z1, z2⟩, A5⟩; obtain ⟨v7, w7, hr7, A7⟩ := AP.out _ _ A5; have HR := hid hr7; clear hr7) | (refine step_append_run (by rfl) (.tmp 21) (.tmp 29) 27 (by rfl) _ _ _ _ (by rfl) (by rfl) HR.out ?_))
      all_goals
        obtain ⟨v8, w8, hr8, A9⟩ := A8.out _ _ A7
        have R8 := hid hr8
        have y := blk3 A7.out.tail
        obtain ⟨x0, x1, x2⟩ := y
        clear hr8
        go_wp2_with (at_builtin; refine wpList_append_run rfl _ _ 27 rfl _ _ _ _ rfl rfl R8.out ?_)
        go_ret2
        exact ⟨_, rfl, A9.out⟩
  · obtain ⟨hm0, rfl⟩ := hcn (by omega)
    obtain rfl : m = 0 := by omega
    have e2 : resW k 0 [] = [cdN.getD k []] := by unfold resW; rw [if_neg (by omega)]
    rw [e2]
    have nz : ((k : Int) != 0) = true := by simpa using hz
    clear e2 hn0 hn1 hl8 hc0 hcn hm0 hR
    generalize ByteArray.mk (cdN.getD k []).toArray = X0 at *
    generalize [cdN.getD k []] = RES at *
    simp only [List.length_nil] at *
    go_enter Tryz.func65, Tryz.ntmps65
    go_wp2_with (go_at_call 100; refine CK.out.mono ?_; rintro e w1 ⟨rfl, B1⟩; have A1 := hid (A0.out.later B1); clear B1; refine Hid.out ?_)
    refine hid ?_
    obtain ⟨y0, y1, y2⟩ := blk3 A1.out
    have Q16 := hid (C16.out _ A1.out)
    go_wp2
    go_region_law (go_simp; first | (go_at_call 101; refine Q16.out.mono ?_; rintro e w2 ⟨H, rfl, u0, u1, A2⟩))
    all_goals
      have A3 := hid (NW.out _ A2.out)
      obtain ⟨z0, z1, z2⟩ := blk3 A3.out.tail
      go_wp2
      go_ret2
      exact ⟨_, rfl, A3.out.del⟩
end Go.Proofs.YtfeppannfcbakaaGreatDoor

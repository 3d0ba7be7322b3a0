import Derived.Test.YtfeppannfcbakaaGreatDoorJ9
import Derived.Test.YtfeppannfcbakaaGreatDoorRC3
namespace Go.Proofs.YtfeppannfcbakaaGreatDoor
open Go.RowKit Go.Lib
set_option linter.unusedVariables false

def kN : Ws := wfN.map (·.1)
theorem kN_at {k : Nat} (h : k < 9) : kN.getD k [] = nmN k := by
  obtain rfl | rfl | rfl | rfl | rfl | rfl | rfl | rfl | rfl : k = 0 ∨ k = 1 ∨ k = 2 ∨ k = 3 ∨ k = 4 ∨ k = 5 ∨ k = 6 ∨ k = 7 ∨ k = 8 := by omega
  all_goals rfl
set_option maxRecDepth 1000000 in
theorem kinds_any {w : World} : Calls Tryz.prog 99 #[] w fun e w' => e = .returned (.slice (some ⟨w.heap.size, 0, none⟩) 9 9) ∧ w' = w.alloc (.cells (txW kN).toArray 9) := by
  have e1 : (txW kN).toArray = #[.string ⟨#[]⟩, .string ⟨#[109, 97, 107, 101]⟩, .string ⟨#[100, 114, 111, 112]⟩, .string ⟨#[112, 117, 115, 104]⟩, .string ⟨#[116, 114, 105, 109]⟩, .string ⟨#[116, 97, 107, 101]⟩, .string ⟨#[114, 101, 97, 100]⟩, .string ⟨#[99, 111, 117, 110, 116]⟩, .string ⟨#[108, 105, 115, 116]⟩] := rfl
  rw [e1]
  clear e1
  go_enter Tryz.func99, Tryz.ntmps99
  go_wp2
  go_ret
  exact ⟨rfl, rfl⟩
theorem rt_kinds (w : World) : Rt (w.alloc (.cells (txW kN).toArray 9)) (.slice (some ⟨w.heap.size, 0, none⟩) 9 9) kN := rt_own (own_new (All.came w) kN (by simp [kN, wfN]))
theorem rchkO_any {k : Int} {nm tx : List UInt8} {n m : Int} {w : World} : Calls Tryz.prog 98 #[opV k ⟨nm.toArray⟩ ⟨tx.toArray⟩ n m] w fun e w' => e = .returned (.int .i64 (chkO k nm tx n m)) ∧ Below w.heap.size w w' := by
  have := rcheck_any (w := w) k ⟨nm.toArray⟩ ⟨tx.toArray⟩ n m
  have e1 : (⟨nm.toArray⟩ : ByteArray).size = nm.length := by simp [ByteArray.size]
  have e2 : (⟨tx.toArray⟩ : ByteArray).size = tx.length := by simp [ByteArray.size]
  rw [e1, e2] at this
  exact this

set_option maxHeartbeats 1000000 in
set_option maxRecDepth 1000000 in
theorem rOp_any {k n m : Int} {nm tx : List UInt8} {cs : List Comp} {w : World} (A : All cs w) :
    Calls Tryz.prog 64 #[opV k ⟨nm.toArray⟩ ⟨tx.toArray⟩ n m] w (WRPost (opA k nm tx n m) (chkO k nm tx n m) cs) := by
  have A0 := hid (A.addBlk [.int .i64 k, .string ⟨nm.toArray⟩, .string ⟨tx.toArray⟩, .int .i64 n, .int .i64 m] 24)
  have CK := hid (rchkO_any (k := k) (nm := nm) (tx := tx) (n := n) (m := m) (w := w.alloc (.cells #[.int .i64 k, .string ⟨nm.toArray⟩, .string ⟨tx.toArray⟩, .int .i64 n, .int .i64 m] 24)))
  by_cases hX : chkO k nm tx n m ≠ 0
  · have e1 : opA k nm tx n m = [] := by unfold opA; rw [if_pos hX]
    rw [e1]
    have hX' : (chkO k nm tx n m != 0) = true := by simpa using hX
    clear e1 hX A
    generalize chkO k nm tx n m = XX at *
    generalize ByteArray.mk nm.toArray = X1 at *
    generalize ByteArray.mk tx.toArray = X2 at *
    go_enter Tryz.func64, Tryz.ntmps64
    go_wp2_with (go_at_call 98; refine CK.out.mono ?_; rintro e w1 ⟨rfl, B1⟩; have A1 := hid (A0.out.later B1); clear B1)
    go_ret2
    exact ⟨_, rfl, All.addNil A1.out.tail⟩
  have hX0 : chkO k nm tx n m = 0 := Classical.byContradiction hX
  have e1 : opA k nm tx n m = opW k.toNat nm tx n.toNat m.toNat := by unfold opA; rw [if_neg hX]
  obtain ⟨hk1, hk8, hn0, hn1, hm0, hm1, _, _, _⟩ := chkO_zero hX0
  rw [e1]
  rw [hX0] at CK ⊢
  clear hX hX0 e1 A
  obtain ⟨k, rfl⟩ := Int.eq_ofNat_of_zero_le (show 0 ≤ k by omega)
  obtain ⟨n, rfl⟩ := Int.eq_ofNat_of_zero_le hn0
  obtain ⟨m, rfl⟩ := Int.eq_ofNat_of_zero_le hm0
  rw [Int.toNat_natCast, Int.toNat_natCast, Int.toNat_natCast]
  have hk9 : (k : Int) < 9 := by omega
  have C22 : Hid (∀ W, All (blkC w.heap.size [.int .i64 (k : Int), .string ⟨nm.toArray⟩, .string ⟨tx.toArray⟩, .int .i64 (n : Int), .int .i64 (m : Int)] 24 :: cs) W → Calls Tryz.prog 99 #[] W.drew fun e w' => ∃ H, e = .returned (.slice (some ⟨H, 0, none⟩) 9 9) ∧ w'.cell? ⟨H, k, none⟩ = some (.string ⟨(nmN k).toArray⟩) ∧ w'.cell? ⟨w.heap.size, 0, none⟩ = some (.int .i64 (k : Int)) ∧ Hid (All (blkC w.heap.size [.int .i64 (k : Int), .string ⟨nm.toArray⟩, .string ⟨tx.toArray⟩, .int .i64 (n : Int), .int .i64 (m : Int)] 24 :: cs) w')) := hid (fun W hA => by
    refine Calls.mono kinds_any ?_
    rintro e w' ⟨rfl, rfl⟩
    have hA' := hA.drew.alloc (.cells (txW kN).toArray 9)
    refine ⟨_, rfl, ?_, (blk5 hA' (.head _)).1, hid hA'⟩
    obtain ⟨g, o, e, _, hc⟩ := (rt_kinds W.drew).at (j := k) (by simp [kN, wfN]; omega)
    simp only [Option.some.injEq, Addr.mk.injEq, and_true] at e
    obtain ⟨rfl, rfl⟩ := e
    rw [kN_at (by omega)] at hc
    simpa using hc)
  have NW : Hid (∀ W ds, All ds W → All (ownC 9 (.slice (some ⟨W.heap.size, 0, none⟩) 1 1) (txW [nmN k]) :: ds) (W.alloc (.cells #[.string ⟨(nmN k).toArray⟩] 9))) := hid (fun W ds hA => own_new hA [nmN k] (by simp))
  have AP : Hid (∀ (v : Value) (u : Ws) (x : List UInt8) (X : ByteArray) ds W, Hid (ByteArray.mk x.toArray = X) → Hid (All (ownC 9 v (txW u) :: ds) W) → u.length ≤ 10 → ∃ v' w', (Builtin.append_ #[27, 27] 27 #[v, .slice (some ⟨W.heap.size, 0, none⟩) 1 1]).run Tryz.prog (W.alloc (.cells #[.string X] 9)) = .ok v' w' ∧ Hid (All (ownC 9 v' (txW (u ++ [x])) :: ds) w')) := hid (fun v u x X ds W hX hA hu => by
    obtain ⟨ao, c, w', hr, A'⟩ := app_txt hA.out x (by omega)
    rw [hX.out] at hr
    exact ⟨_, w', hr, hid A'⟩)
  have DG : Hid (∀ (j : Nat) ds W, j ≤ 1099511627776 → Hid (All ds W) → Calls Tryz.prog 43 #[.int .i64 (j : Int)] W fun e w' => e = .returned (.string ⟨(Lib.decDigits j).toArray⟩) ∧ Hid (All ds w')) := hid (fun j ds W hj hA => (Digits_any j W (by omega)).mono fun e w' ⟨he, hb⟩ => ⟨he, hid (hA.out.later hb)⟩)
  have EW : Hid (opW k nm tx n m = nmN k :: flds nm tx n m (ltN k)) := hid rfl
  generalize opW k nm tx n m = OW at *
  have hn1' : Hid (n ≤ 1099511627776) := hid (by omega)
  have hm1' : Hid (m ≤ 1099511627776) := hid (by omega)
  have hk1' : 1 ≤ k := by omega
  have hk8' : k ≤ 8 := by omega
  clear hn0 hm0 hk8 hk1 hn1 hm1
  generalize hX1 : ByteArray.mk nm.toArray = X1 at *
  have HX1 := hid hX1
  generalize hX2 : ByteArray.mk tx.toArray = X2 at *
  have HX2 := hid hX2
  generalize hXn : ByteArray.mk (nmN k).toArray = XN at *
  generalize hXa : ByteArray.mk (Lib.decDigits n).toArray = XA at *
  have HXA := hid hXa
  generalize hXb : ByteArray.mk (Lib.decDigits m).toArray = XB at *
  have HXB := hid hXb
  have DN : Hid (∀ ds W, Hid (All ds W) → Calls Tryz.prog 43 #[.int .i64 (n : Int)] W fun e w' => e = .returned (.string XA) ∧ Hid (All ds w')) := hid (fun ds W h => by have := DG.out n ds W hn1'.out h; rw [hXa] at this; exact this)
  have DM : Hid (∀ ds W, Hid (All ds W) → Calls Tryz.prog 43 #[.int .i64 (m : Int)] W fun e w' => e = .returned (.string XB) ∧ Hid (All ds w')) := hid (fun ds W h => by have := DG.out m ds W hm1'.out h; rw [hXb] at this; exact this)
  clear hX1 hX2 hXn hXa hXb DG
  go_enter Tryz.func64, Tryz.ntmps64
  go_wp2_with (go_at_call 98; refine CK.out.mono ?_; rintro e w1 ⟨rfl, B1⟩; have A1 := hid (A0.out.later B1); clear B1; refine Hid.out ?_)
  refine hid ?_
  obtain ⟨y0, y1, y2, y3, y4, _⟩ := blk5 A1.out (.head _)
  have Q22 := hid (C22.out _ A1.out)
  go_wp2
  go_region_law (go_simp; first | (go_at_call 99; refine Q22.out.mono ?_; rintro e w2 ⟨H, rfl, u0, u1, A2⟩))
  all_goals
    have A3 := hid (NW.out _ _ A2.out)
    obtain ⟨z0, z1, z2, z3, z4, _⟩ := blk5 A3.out (.tail _ (.head _))
    clear C22 Q22 A1 y0 y1 y2 y3 y4 A0 CK u0 u1 A2 NW
    generalize hW3 : World.alloc w2 _ = w3 at *
    clear hW3
    generalize nmN k = NM at *
    generalize hlt : ltN k = lt at *
    have HLT := hid hlt
    clear hlt
    obtain rfl | rfl | rfl | rfl | rfl | rfl | rfl | rfl : k = 1 ∨ k = 2 ∨ k = 3 ∨ k = 4 ∨ k = 5 ∨ k = 6 ∨ k = 7 ∨ k = 8 := by omega
    · obtain ⟨va0, wa0, hr0, B0⟩ := AP.out _ _ nm _ _ _ HX1 A3 (by simp)
      have R0 := hid hr0
      clear hr0
      go_wp2_with (at_builtin; refine wpList_append_run rfl _ _ 27 rfl _ _ _ _ rfl rfl R0.out ?_; refine Hid.out ?_)
      refine hid ?_
      clear A3 R0 z0 z1 z2 z3 z4
      obtain ⟨z0, z1, z2, z3, z4, _⟩ := blk5 B0.out (.tail _ (.head _))
      go_wp2
      go_ret2
      have e9 : OW = NM :: flds nm tx n m [78] := (by rw [EW.out, ← HLT.out]; rfl)
      exact ⟨_, rfl, by rw [e9]; exact B0.out.del⟩
    · obtain ⟨va0, wa0, hr0, B0⟩ := AP.out _ _ nm _ _ _ HX1 A3 (by simp)
      have R0 := hid hr0
      clear hr0
      go_wp2_with (at_builtin; refine wpList_append_run rfl _ _ 27 rfl _ _ _ _ rfl rfl R0.out ?_; refine Hid.out ?_)
      refine hid ?_
      clear A3 R0 z0 z1 z2 z3 z4
      obtain ⟨z0, z1, z2, z3, z4, _⟩ := blk5 B0.out (.tail _ (.head _))
      go_wp2
      go_ret2
      have e9 : OW = NM :: flds nm tx n m [78] := (by rw [EW.out, ← HLT.out]; rfl)
      exact ⟨_, rfl, by rw [e9]; exact B0.out.del⟩
    · obtain ⟨va0, wa0, hr0, B0⟩ := AP.out _ _ nm _ _ _ HX1 A3 (by simp)
      have R0 := hid hr0
      clear hr0
      go_wp2_with (at_builtin; refine wpList_append_run rfl _ _ 27 rfl _ _ _ _ rfl rfl R0.out ?_; refine Hid.out ?_)
      refine hid ?_
      clear A3 R0 z0 z1 z2 z3 z4
      obtain ⟨z0, z1, z2, z3, z4, _⟩ := blk5 B0.out (.tail _ (.head _))
      obtain ⟨va1, wa1, hr1, B1⟩ := AP.out _ _ tx _ _ _ HX2 B0 (by simp)
      have R1 := hid hr1
      clear hr1
      go_wp2_with (at_builtin; refine wpList_append_run rfl _ _ 27 rfl _ _ _ _ rfl rfl R1.out ?_; refine Hid.out ?_)
      refine hid ?_
      clear B0 R1 z0 z1 z2 z3 z4
      obtain ⟨z0, z1, z2, z3, z4, _⟩ := blk5 B1.out (.tail _ (.head _))
      go_wp2
      go_ret2
      have e9 : OW = NM :: flds nm tx n m [78, 84] := (by rw [EW.out, ← HLT.out]; rfl)
      exact ⟨_, rfl, by rw [e9]; exact B1.out.del⟩
    · obtain ⟨va0, wa0, hr0, B0⟩ := AP.out _ _ nm _ _ _ HX1 A3 (by simp)
      have R0 := hid hr0
      clear hr0
      go_wp2_with (at_builtin; refine wpList_append_run rfl _ _ 27 rfl _ _ _ _ rfl rfl R0.out ?_; refine Hid.out ?_)
      refine hid ?_
      clear A3 R0 z0 z1 z2 z3 z4
      obtain ⟨z0, z1, z2, z3, z4, _⟩ := blk5 B0.out (.tail _ (.head _))
      have Q1 := hid (DN.out _ _ B0)
      go_wp2_with (go_at_call 43; refine Q1.out.mono ?_; rintro e wd1 ⟨rfl, D1⟩; refine Hid.out ?_)
      refine hid ?_
      clear B0 Q1 z0 z1 z2 z3 z4
      obtain ⟨z0, z1, z2, z3, z4, _⟩ := blk5 D1.out (.tail _ (.head _))
      obtain ⟨va1, wa1, hr1, B1⟩ := AP.out _ _ (Lib.decDigits n) _ _ _ HXA D1 (by simp)
      have R1 := hid hr1
      clear hr1
      go_wp2_with (at_builtin; refine wpList_append_run rfl _ _ 27 rfl _ _ _ _ rfl rfl R1.out ?_; refine Hid.out ?_)
      refine hid ?_
      clear D1 R1 z0 z1 z2 z3 z4
      obtain ⟨z0, z1, z2, z3, z4, _⟩ := blk5 B1.out (.tail _ (.head _))
      go_wp2
      go_ret2
      have e9 : OW = NM :: flds nm tx n m [78, 75] := (by rw [EW.out, ← HLT.out]; rfl)
      exact ⟨_, rfl, by rw [e9]; exact B1.out.del⟩
    · obtain ⟨va0, wa0, hr0, B0⟩ := AP.out _ _ nm _ _ _ HX1 A3 (by simp)
      have R0 := hid hr0
      clear hr0
      go_wp2_with (at_builtin; refine wpList_append_run rfl _ _ 27 rfl _ _ _ _ rfl rfl R0.out ?_; refine Hid.out ?_)
      refine hid ?_
      clear A3 R0 z0 z1 z2 z3 z4
      obtain ⟨z0, z1, z2, z3, z4, _⟩ := blk5 B0.out (.tail _ (.head _))
      obtain ⟨va1, wa1, hr1, B1⟩ := AP.out _ _ tx _ _ _ HX2 B0 (by simp)
      have R1 := hid hr1
      clear hr1
      go_wp2_with (at_builtin; refine wpList_append_run rfl _ _ 27 rfl _ _ _ _ rfl rfl R1.out ?_; refine Hid.out ?_)
      refine hid ?_
      clear B0 R1 z0 z1 z2 z3 z4
      obtain ⟨z0, z1, z2, z3, z4, _⟩ := blk5 B1.out (.tail _ (.head _))
      go_wp2
      go_ret2
      have e9 : OW = NM :: flds nm tx n m [78, 84] := (by rw [EW.out, ← HLT.out]; rfl)
      exact ⟨_, rfl, by rw [e9]; exact B1.out.del⟩
    · obtain ⟨va0, wa0, hr0, B0⟩ := AP.out _ _ nm _ _ _ HX1 A3 (by simp)
      have R0 := hid hr0
      clear hr0
      go_wp2_with (at_builtin; refine wpList_append_run rfl _ _ 27 rfl _ _ _ _ rfl rfl R0.out ?_; refine Hid.out ?_)
      refine hid ?_
      clear A3 R0 z0 z1 z2 z3 z4
      obtain ⟨z0, z1, z2, z3, z4, _⟩ := blk5 B0.out (.tail _ (.head _))
      have Q1 := hid (DN.out _ _ B0)
      go_wp2_with (go_at_call 43; refine Q1.out.mono ?_; rintro e wd1 ⟨rfl, D1⟩; refine Hid.out ?_)
      refine hid ?_
      clear B0 Q1 z0 z1 z2 z3 z4
      obtain ⟨z0, z1, z2, z3, z4, _⟩ := blk5 D1.out (.tail _ (.head _))
      obtain ⟨va1, wa1, hr1, B1⟩ := AP.out _ _ (Lib.decDigits n) _ _ _ HXA D1 (by simp)
      have R1 := hid hr1
      clear hr1
      go_wp2_with (at_builtin; refine wpList_append_run rfl _ _ 27 rfl _ _ _ _ rfl rfl R1.out ?_; refine Hid.out ?_)
      refine hid ?_
      clear D1 R1 z0 z1 z2 z3 z4
      obtain ⟨z0, z1, z2, z3, z4, _⟩ := blk5 B1.out (.tail _ (.head _))
      have Q2 := hid (DM.out _ _ B1)
      go_wp2_with (go_at_call 43; refine Q2.out.mono ?_; rintro e wd2 ⟨rfl, D2⟩; refine Hid.out ?_)
      refine hid ?_
      clear B1 Q2 z0 z1 z2 z3 z4
      obtain ⟨z0, z1, z2, z3, z4, _⟩ := blk5 D2.out (.tail _ (.head _))
      obtain ⟨va2, wa2, hr2, B2⟩ := AP.out _ _ (Lib.decDigits m) _ _ _ HXB D2 (by simp)
      have R2 := hid hr2
      clear hr2
      go_wp2_with (at_builtin; refine wpList_append_run rfl _ _ 27 rfl _ _ _ _ rfl rfl R2.out ?_; refine Hid.out ?_)
      refine hid ?_
      clear D2 R2 z0 z1 z2 z3 z4
      obtain ⟨z0, z1, z2, z3, z4, _⟩ := blk5 B2.out (.tail _ (.head _))
      go_wp2
      go_ret2
      have e9 : OW = NM :: flds nm tx n m [78, 75, 77] := (by rw [EW.out, ← HLT.out]; rfl)
      exact ⟨_, rfl, by rw [e9]; exact B2.out.del⟩
    · obtain ⟨va0, wa0, hr0, B0⟩ := AP.out _ _ nm _ _ _ HX1 A3 (by simp)
      have R0 := hid hr0
      clear hr0
      go_wp2_with (at_builtin; refine wpList_append_run rfl _ _ 27 rfl _ _ _ _ rfl rfl R0.out ?_; refine Hid.out ?_)
      refine hid ?_
      clear A3 R0 z0 z1 z2 z3 z4
      obtain ⟨z0, z1, z2, z3, z4, _⟩ := blk5 B0.out (.tail _ (.head _))
      go_wp2
      go_ret2
      have e9 : OW = NM :: flds nm tx n m [78] := (by rw [EW.out, ← HLT.out]; rfl)
      exact ⟨_, rfl, by rw [e9]; exact B0.out.del⟩
    · go_wp2
      go_ret2
      have e9 : OW = NM :: flds nm tx n m [] := (by rw [EW.out, ← HLT.out]; rfl)
      exact ⟨_, rfl, by rw [e9]; exact A3.out.del⟩
end Go.Proofs.YtfeppannfcbakaaGreatDoor

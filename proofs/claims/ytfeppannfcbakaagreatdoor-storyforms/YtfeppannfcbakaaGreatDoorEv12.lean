import Derived.Test.YtfeppannfcbakaaGreatDoorEv3
namespace Go.Proofs.YtfeppannfcbakaaGreatDoor
open Go.RowKit
set_option linter.unusedVariables false
set_option maxRecDepth 100000

/-- An event without what its kind has. -/
def Ev.left (e : Ev) : Ev :=
  if e.k = 1 then { e with a := 0, cd := 0 } else if e.k = 2 then { e with a := 0, nb := 0, ok := 0, onm := [], otx := [], on := 0, om := 0 } else if e.k = 3 then { e with a := 0, nb := 0, wh := 0, ok := 0, onm := [], otx := [], on := 0, om := 0 } else if e.k = 4 then { e with a := 0, nb := 0, nm := 0, rc := 0, rn := 0, ria := none, rik := 0, ric := 0 } else if e.k = 5 then { e with a := 0, nb := 0, nm := 0, wh := 0, rc := 0, rn := 0, ria := none, rik := 0, ric := 0 } else if e.k = 6 then { e with a := 0, nm := 0, fr := false, ec := 0, en := 0, pk := 0, pnm := [], ptx := [], pn := 0, pm := 0, rc := 0, rn := 0, ria := none, rik := 0, ric := 0 } else if e.k = 7 ∨ e.k = 10 then { e with a := 0, l0 := 0, l1 := 0, l2 := 0, l3 := 0, l4 := 0, l5 := 0, l6 := 0, l7 := 0 } else if e.k = 11 then { e with a := 0, sn := 0, sa := 0, dia := none, dik := 0, dic := 0 } else { e with a := 0 }
set_option maxHeartbeats 1600000 in
theorem Ev.left_cells (e : Ev) : e.left.cells = clrL (kindT e.k) e.cells := by
  unfold Ev.left kindT
  repeat' split
  all_goals rfl
/-- An event may be, but for its op and its result. -/
def Ev.inForm (e : Ev) : Bool := if e.k < 1 ∨ 11 < e.k then false else okL (kindT e.k) e.cells && e.left.empty
theorem kindT_len (k : Int) : (kindT k).length ≤ 100 := by
  unfold kindT
  repeat' split
  all_goals decide
set_option maxHeartbeats 3200000 in
set_option maxRecDepth 1000000 in
theorem isInForm_any (e : Ev) {cs : List Comp} {w : World} (A : All cs w) : Calls Tryz.prog 26 #[.agg e.cells.toArray] w fun r w' => r = .returned (.bool e.inForm) ∧ All cs w' := by
  have A1 := hid (A.addBlk e.cells 36)
  have hc := cell_in (P := w.heap.size) (o := 0) A1.out (t := 36) (List.mem_cons_self) (v := .int .i64 e.k) rfl
  have CT := hid (things_any (P := w.heap.size) A1.out hc)
  have CK : Hid (∀ b W, All (blkC b ((kindT e.k).map (thV w.heap.size)) 20 :: blkC w.heap.size e.cells 36 :: cs) W → Calls Tryz.prog 53 #[.slice (some ⟨b, 0, none⟩) (kindT e.k).length (kindT e.k).length] W fun r w' => r = .returned (.bool (okL (kindT e.k) e.cells)) ∧ All (blkC w.heap.size e.left.cells 36 :: blkC b ((kindT e.k).map (thV w.heap.size)) 20 :: cs) w') := hid (fun b W hW => by
    rw [Ev.left_cells]
    exact takeOut_any (kindT_len _) (e.typed e.k) hW.swap)
  have CE : Hid (∀ W, Calls Tryz.prog 54 #[.agg e.left.cells.toArray] W fun r w' => r = .returned (.bool e.left.empty) ∧ Below W.heap.size W w') := hid (fun W => isEmpty_any e.left W)
  have I36 : Hid ((Tryz.prog.info? 36).map (·.size) = some e.left.cells.toArray.size) := hid (by kernel_rfl)
  by_cases hk : e.k < 1 ∨ 11 < e.k
  · have EF : Hid (e.inForm = false) := hid (by unfold Ev.inForm; rw [if_pos hk])
    have KF := hid A1.out.tail
    clear A A1 CT CK CE I36
    generalize e.cells = EC at *
    rcases hk with h | h
    all_goals
      go_enter Tryz.func26, Tryz.ntmps26
      go_upto_region 1 with fail
      generalize w.alloc (.cells EC.toArray 36) = w1 at *
      go_wp2
      go_ret
      exact ⟨by rw [EF.out]; rfl, KF.out⟩
  · have EF : Hid (e.inForm = (okL (kindT e.k) e.cells && e.left.empty)) := hid (by unfold Ev.inForm; rw [if_neg hk])
    have h1 : 1 ≤ e.k := by omega
    have h2 : e.k ≤ 11 := by omega
    unfold ThPost at CT
    generalize (kindT e.k).map (thV w.heap.size) = LV at *
    generalize (kindT e.k).length = n at *
    generalize okL (kindT e.k) e.cells = B1 at *
    generalize e.left.empty = B2 at *
    generalize e.left.cells = LC at *
    clear A hk
    generalize e.cells = EC at *
    cases B1
    · go_enter Tryz.func26, Tryz.ntmps26
      go_upto_region 1 with fail
      generalize w.alloc (.cells EC.toArray 36) = w1 at *
      go_wp2_with (first | (go_at_call 28; refine CT.out.mono ?_; rintro r w2 ⟨b2, rfl, A2⟩; have K2 := hid A2; clear A2) | (go_at_call 53; refine (CK.out _ _ K2.out).mono ?_; rintro r w3 ⟨rfl, A3⟩; have K3 := hid A3; have HB := hid (A3.blk (g := w.heap.size) (vs := LC) (t := 36) (List.mem_cons_self)); clear A3) | (refine wpList_step (fun K hK => ?_); rw [if_pos (by rfl)]; refine wp_load_row 36 _ rfl w.heap.size rfl 36 LC.toArray (0, 0) _ HB.out Tryz.underlying36 rfl I36.out (hK _ _ ?_); clear hK K) | (go_at_call 54; refine (CE.out _).mono ?_; rintro r w4 ⟨rfl, B4⟩; have K4 := hid (K3.out.later B4); clear B4))
      go_ret
      exact ⟨by rw [EF.out]; rfl, K3.out.tail.tail⟩
    · go_enter Tryz.func26, Tryz.ntmps26
      go_upto_region 1 with fail
      generalize w.alloc (.cells EC.toArray 36) = w1 at *
      go_wp2_with (first | (go_at_call 28; refine CT.out.mono ?_; rintro r w2 ⟨b2, rfl, A2⟩; have K2 := hid A2; clear A2) | (go_at_call 53; refine (CK.out _ _ K2.out).mono ?_; rintro r w3 ⟨rfl, A3⟩; have K3 := hid A3; have HB := hid (A3.blk (g := w.heap.size) (vs := LC) (t := 36) (List.mem_cons_self)); clear A3) | (refine wpList_step (fun K hK => ?_); rw [if_pos (by rfl)]; refine wp_load_row 36 _ rfl w.heap.size rfl 36 LC.toArray (0, 0) _ HB.out Tryz.underlying36 rfl I36.out (hK _ _ ?_); clear hK K) | (go_at_call 54; refine (CE.out _).mono ?_; rintro r w4 ⟨rfl, B4⟩; have K4 := hid (K3.out.later B4); clear B4))
      go_ret
      exact ⟨by rw [EF.out]; simp, K4.out.tail.tail⟩
end Go.Proofs.YtfeppannfcbakaaGreatDoor

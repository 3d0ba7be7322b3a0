import Derived.Test.YtfeppannfcbakaaGreatDoorJ23
namespace Go.Proofs.YtfeppannfcbakaaGreatDoor
open Go.RowKit
set_option linter.unusedVariables false
set_option maxRecDepth 100000

set_option maxHeartbeats 6400000 in
set_option maxRecDepth 1000000 in
/-- THE LAW: StoryBack. -/
theorem back_law {e : Ev} {items : Ws} {data : List UInt8} {w : World} (hE : En w) (hR : e.Rg) (hi : items.length = e.rik) (hd : data.length = e.dik) (hI : Rt w (.slice e.ria e.rik e.ric) items) (hD : BRd w (.slice e.dia e.dik e.dic) data) (hil : items.length ≤ 140737488355328) (hdl : data.length ≤ 140737488355328) :
    Calls Tryz.prog 5 #[.agg e.cells.toArray] w fun r w' => r = .returned (.bool true) ∧ Below w.heap.size w w' := by
  have hE' : ∀ W, All [inC w] W → En W := fun W hW => hE.later (hW.into (List.mem_cons_self))
  have hI' : ∀ W, All [inC w] W → Rt W (.slice e.ria e.rik e.ric) items := fun W hW => hI.later (hW.into (List.mem_cons_self))
  have hD' : ∀ W, All [inC w] W → BRd W (.slice e.dia e.dik e.dic) data := fun W hW => hD.later (hW.into (List.mem_cons_self))
  have A1 := hid ((All.came w).addBlk e.cells 36)
  have CS := hid (shown_any (cs := blkC w.heap.size e.cells 36 :: [inC w]) (fun W hW => hE' W hW.tail) A1.out)
  have CA : Hid (∀ W, All (blkC w.heap.size e.cells 36 :: [inC w]) W → Calls Tryz.prog 11 #[.agg e.cells.toArray] W fun r w' => r = .returned (.tuple #[.string ⟨(e.line items data).toArray⟩, .int .i64 (e.err items)]) ∧ All (blkC w.heap.size e.cells 36 :: [inC w]) w') := hid (fun W hW => Line_ev (fun V hV => hE' V hV.tail) hR hd hil (fun V hV => hI' V hV.tail) (fun V hV => hD' V hV.tail) hW)
  have I36 : Hid ((Tryz.prog.info? 36).map (·.size) = some e.cells.toArray.size) := hid (by kernel_rfl)
  have FIN : Hid (∀ cs W, All (cs ++ [inC w]) W → Below w.heap.size w W) := hid (fun cs W h => h.into (by simp))
  by_cases hX : e.err items = 0
  · have CB : Hid (∀ W, All (blkC w.heap.size e.cells 36 :: [inC w]) W → Calls Tryz.prog 14 #[.string ⟨(e.line items data).toArray⟩] W fun r w' => ∃ (ra : Option Addr) (rn rc : Nat) (da : Option Addr) (dn dc : Nat) (os : List Comp), r = .returned (.tuple #[.agg (e.cells2 (.slice ra rn rc) (.slice da dn dc)).toArray, .int .i64 0]) ∧ All (os ++ (blkC w.heap.size e.cells 36 :: [inC w])) w' ∧ ∀ W, All (os ++ (blkC w.heap.size e.cells 36 :: [inC w])) W → Rt W (.slice ra rn rc) items ∧ BRd W (.slice da dn dc) data) := hid (fun W hW => by
      refine (ReadBack_any (fun V hV => hE' V hV.tail) hX hR hi hd hW).mono ?_
      rintro r w' ⟨rv, dv, os, hr, hA, hf⟩
      obtain ⟨ra, rc, e1⟩ := (hf _ hA).1.form
      obtain ⟨da, dc, e2⟩ := (hf _ hA).2.form
      subst e1 e2
      exact ⟨_, _, _, _, _, _, os, hr, hA, hf⟩)
    have CC : Hid (∀ (ra : Option Addr) (rn rc : Nat) (da : Option Addr) (dn dc : Nat) (os : List Comp) (G : Nat) W, (∀ W, All (os ++ (blkC w.heap.size e.cells 36 :: [inC w])) W → Rt W (.slice ra rn rc) items ∧ BRd W (.slice da dn dc) data) → All (blkC G (e.cells2 (.slice ra rn rc) (.slice da dn dc)) 36 :: (os ++ (blkC w.heap.size e.cells 36 :: [inC w]))) W → Calls Tryz.prog 13 #[.agg (e.cells2 (.slice ra rn rc) (.slice da dn dc)).toArray, .agg e.cells.toArray] W fun r w' => r = .returned (.bool true) ∧ Below w.heap.size w w') := hid (fun ra rn rc da dn dc os G W hf hW =>
      (sameEvent_true e hW (fun V hV => (hf V hV.tail).1) (fun V hV => hI' V (dropA hV.tail).tail) (fun V hV => (hf V hV.tail).2) (fun V hV => hD' V (dropA hV.tail).tail) hil hdl).mono fun r w' h => ⟨h.1, (dropA h.2.tail).tail.into (List.mem_cons_self)⟩)
    have HLN : Hid (((e.line items data).length : Int) ≤ 8192) := hid (by have := (re_back hX hR hd).2.1; omega)
    have I2 : Hid (∀ (ra : Option Addr) (rn rc : Nat) (da : Option Addr) (dn dc : Nat), (Tryz.prog.info? 36).map (·.size) = some (e.cells2 (.slice ra rn rc) (.slice da dn dc)).toArray.size) := hid (fun _ _ _ _ _ _ => by kernel_rfl)
    have O2 : Hid (∀ (ra : Option Addr) (rn rc : Nat) (da : Option Addr) (dn dc : Nat), (e.cells2 (.slice ra rn rc) (.slice da dn dc)).toArray.all (·.oneCell') = true) := hid (fun _ _ _ _ _ _ => by kernel_rfl)
    have Z2 : Hid (∀ (ra : Option Addr) (rn rc : Nat) (da : Option Addr) (dn dc : Nat), (Ev.zero 0).cells.toArray.size = (e.cells2 (.slice ra rn rc) (.slice da dn dc)).toArray.size) := hid (fun _ _ _ _ _ _ => rfl)
    rw [hX] at CA
    have hln : (((⟨(e.line items data).toArray⟩ : ByteArray).size : Int) ≤ 8192) := by simpa [ByteArray.size] using HLN.out
    clear hE hE' hI hI' hD hD' hR hi hd hil hdl hX HLN
    generalize ByteArray.mk (e.line items data).toArray = LN at *
    generalize e.cells = EC at *
    go_enter Tryz.func5, Tryz.ntmps5
    go_upto_region 1 with fail
    generalize w.alloc (.cells EC.toArray 36) = w1 at *
    go_upto_region 3 with (go_at_call 9; refine CS.out.mono ?_; rintro r w2 ⟨rfl, B2⟩; have K2 := hid B2; have HB2 := hid (B2.blk (g := w.heap.size) (vs := EC) (t := 36) (List.mem_cons_self)); clear B2)
    go_upto_region 6 with (first | (refine wpList_load_row rfl 36 _ rfl w.heap.size rfl 36 EC.toArray (0, 0) _ HB2.out Tryz.underlying36 rfl I36.out ?_) | (go_at_call 11; refine (CA.out _ K2.out).mono ?_; rintro r w3 ⟨rfl, B3⟩; have K3 := hid B3; clear B3))
    go_upto_region 7 with (first | (go_at_call 14; refine (CB.out _ K3.out).mono ?_; rintro r w4 ⟨ra, rn, rc, da, dn, dc, os, rfl, B4, F4⟩; have K4 := hid B4; have FF := hid F4; clear B4 F4) | (refine wpList_store_row rfl 36 _ _ rfl w4.heap.size (e.cells2 (.slice ra rn rc) (.slice da dn dc)).toArray rfl rfl 36 _ (heap_alloc_new w4 _) (I2.out ra rn rc da dn dc) (Z2.out ra rn rc da dn dc) (O2.out ra rn rc da dn dc) ?_; rw [World.setRow_alloc_new]))
    have K5 := hid (K4.out.addBlk (e.cells2 (.slice ra rn rc) (.slice da dn dc)) 36)
    have C5 := hid (CC.out ra rn rc da dn dc os w4.heap.size _ FF.out K5.out)
    have J2 := hid (I2.out ra rn rc da dn dc)
    generalize e.cells2 (.slice ra rn rc) (.slice da dn dc) = XC at *
    generalize w4.alloc (.cells XC.toArray 36) = w5 at *
    have HBx := hid (K5.out.blk (g := w4.heap.size) (vs := XC) (t := 36) (List.mem_cons_self))
    have HBe := hid (K5.out.blk (g := w.heap.size) (vs := EC) (t := 36) (by simp))
    go_wp2_with (first | (refine wpList_step (fun K hK => ?_); rw [if_pos (by rfl)]; refine wp_load_row 36 _ rfl w4.heap.size rfl 36 XC.toArray (0, 0) _ HBx.out Tryz.underlying36 rfl J2.out (hK _ _ ?_); clear hK K) | (refine wpList_step (fun K hK => ?_); rw [if_pos (by rfl)]; refine wp_load_row 36 _ rfl w.heap.size rfl 36 EC.toArray (0, 0) _ HBe.out Tryz.underlying36 rfl I36.out (hK _ _ ?_); clear hK K) | (go_at_call 13; refine C5.out.mono ?_; rintro r w6 ⟨rfl, B6⟩; have K6 := hid B6; clear B6))
    go_ret
    exact ⟨rfl, K6.out⟩
  · have EL : Hid (e.line items data = []) := hid (by unfold Ev.line; rw [if_pos hX])
    rw [EL.out] at CA
    have hx' : (e.err items != 0) = true := by simpa using hX
    clear hE hE' hI hI' hD hD' hR hi hd hil hdl hX EL
    generalize e.err items = X at *
    generalize e.cells = EC at *
    go_enter Tryz.func5, Tryz.ntmps5
    go_upto_region 1 with fail
    generalize w.alloc (.cells EC.toArray 36) = w1 at *
    go_upto_region 3 with (go_at_call 9; refine CS.out.mono ?_; rintro r w2 ⟨rfl, B2⟩; have K2 := hid B2; have HB2 := hid (B2.blk (g := w.heap.size) (vs := EC) (t := 36) (List.mem_cons_self)); clear B2)
    go_wp2_with (first | (refine wpList_load_row rfl 36 _ rfl w.heap.size rfl 36 EC.toArray (0, 0) _ HB2.out Tryz.underlying36 rfl I36.out ?_) | (go_at_call 11; refine (CA.out _ K2.out).mono ?_; rintro r w3 ⟨rfl, B3⟩; have K3 := hid B3; clear B3))
    go_ret
    exact ⟨rfl, K3.out.tail.into (List.mem_cons_self)⟩
end Go.Proofs.YtfeppannfcbakaaGreatDoor

import Derived.Test.YtfeppannfcbakaaGreatDoorJ23
import Derived.Test.YtfeppannfcbakaaGreatDoorJ11
namespace Go.Proofs.YtfeppannfcbakaaGreatDoor
open Go.RowKit
set_option linter.unusedVariables false
set_option maxRecDepth 100000

theorem split_lenJ (l : List UInt8) : lenJ (splitW l).ws ≤ 10000000000000 := by
  have h1 := lenJ_szW (ws := (splitW l).ws) (n := 8192) split_wl
  have h2 := splitW_size l
  have h3 := Nat.mul_le_mul_right (4 * 8192 + 16) h2
  omega
set_option maxHeartbeats 6400000 in
set_option maxRecDepth 1000000 in
/-- THE LAW: StoryForms. -/
theorem forms_law {l : List UInt8} {w : World} (hE : En w) (hl : l.length ≤ 140737488355328) :
    Calls Tryz.prog 6 #[.string ⟨l.toArray⟩] w fun r w' => r = .returned (.bool true) ∧ Below w.heap.size w w' := by
  have hE' : ∀ W, All [inC w] W → En W := fun W hW => hE.later (hW.into (List.mem_cons_self))
  have CS := hid (shown_any (cs := [inC w]) hE' (All.came w))
  have CR : Hid (∀ W, All [inC w] W → _) := hid (fun W hW => ReadForm_any (l := l) hE' hl hW)
  by_cases hX : rlErr l = 0
  · have C14 : Hid (∀ W, All [inC w] W → Calls Tryz.prog 14 #[.string ⟨l.toArray⟩] W fun r w' => ∃ (e : Ev) (os : List Comp), r = .returned (.tuple #[.agg e.cells.toArray, .int .i64 0]) ∧ All (os ++ [inC w]) w' ∧ (∀ v G W, All (ownC 9 v (txW (splitW l).ws) :: blkC G e.cells 36 :: (os ++ [inC w])) W → Calls Tryz.prog 11 #[.agg e.cells.toArray] W fun r w' => r = .returned (.tuple #[.string ⟨(joinW (splitW l).ws).toArray⟩, .int .i64 0]) ∧ All (ownC 9 v (txW (splitW l).ws) :: blkC G e.cells 36 :: (os ++ [inC w])) w')) := hid (fun W hW => by
      refine (CR.out W hW).mono ?_
      rintro r w' ⟨EC, rfl, _, hok⟩
      obtain ⟨e, items, data, os, e1, e2, e3, e4, e5, e6, e7, e8, e9⟩ := hok hX
      subst e1
      refine ⟨e, os, by rw [hX], e8, fun v G V hV => ?_⟩
      have h := Line_ev (e := e) (items := items) (data := data) (fun U hU => hE' U (dropA hU.tail.tail)) e3 e5 (by omega) (fun U hU => (e9 U hU.tail.tail).1) (fun U hU => (e9 U hU.tail.tail).2) hV
      rw [e2, e7] at h
      exact h)
    have C17 : Hid (∀ cs W, All cs W → Calls Tryz.prog 17 #[.string ⟨l.toArray⟩] W fun r w' => ∃ v, r = .returned (.tuple #[v, .int .i64 ((splitW l).at : Int), .int .i64 0]) ∧ All (ownC 9 v (txW (splitW l).ws) :: cs) w') := hid (fun cs W hW => by
      have h : Calls Tryz.prog 17 _ W _ := rSplit_any hW hl
      unfold SplitPost at h
      rw [(rl_zero hX).1] at h
      exact h)
    have C18 : Hid (∀ v cs W, All (ownC 9 v (txW (splitW l).ws) :: cs) W → Calls Tryz.prog 18 #[v] W fun r w' => r = .returned (.string ⟨(joinW (splitW l).ws).toArray⟩) ∧ Below W.heap.size W w') := hid (fun v cs W hW => rJoin_any (rt_own hW) (by have := splitW_size l; omega) (split_lenJ l))
    have I2 : Hid (∀ e : Ev, (Tryz.prog.info? 36).map (·.size) = some e.cells.toArray.size) := hid (fun _ => by kernel_rfl)
    have O2 : Hid (∀ e : Ev, e.cells.toArray.all (·.oneCell') = true) := hid (fun _ => by kernel_rfl)
    have Z2 : Hid (∀ e : Ev, (Ev.zero 0).cells.toArray.size = e.cells.toArray.size) := hid (fun _ => rfl)
    clear hE hE' CR hl hX
    generalize hWS : (splitW l).ws = WS at *
    clear hWS
    generalize ((splitW l).at : Int) = AT at *
    generalize ByteArray.mk l.toArray = L at *
    generalize ByteArray.mk (joinW WS).toArray = JL at *
    go_enter Tryz.func6, Tryz.ntmps6
    go_upto_region 3 with (go_at_call 9; refine CS.out.mono ?_; rintro r w2 ⟨rfl, B2⟩; have K2 := hid B2; clear B2)
    go_upto_region 4 with (first | (go_at_call 14; refine (C14.out _ K2.out).mono ?_; rintro r w4 ⟨e, os, rfl, B4, F4⟩; have K4 := hid B4; have C11 := hid F4; clear B4 F4) | (refine wpList_store_row rfl 36 _ _ rfl w4.heap.size e.cells.toArray rfl rfl 36 _ (heap_alloc_new w4 _) (I2.out e) (Z2.out e) (O2.out e) ?_; rw [World.setRow_alloc_new]))
    have K5 := hid (K4.out.addBlk e.cells 36)
    have J2 := hid (I2.out e)
    generalize e.cells = EC at *
    generalize w4.alloc (.cells EC.toArray 36) = w5 at *
    go_wp2_with (first | (go_at_call 17; refine (C17.out _ _ K5.out).mono ?_; rintro r w6 ⟨v6, rfl, B6⟩; have K6 := hid B6; have HB := hid (B6.blk (g := w4.heap.size) (vs := EC) (t := 36) (by simp)); clear B6) | (refine wpList_load_row rfl 36 _ rfl w4.heap.size rfl 36 EC.toArray (0, 0) _ HB.out Tryz.underlying36 rfl J2.out ?_) | (go_at_call 11; refine (C11.out _ _ _ K6.out).mono ?_; rintro r w7 ⟨rfl, B7⟩; have K7 := hid B7; clear B7) | (go_at_call 18; refine (C18.out _ _ _ K7.out).mono ?_; rintro r w8 ⟨rfl, B8⟩; have K8 := hid ((dropA K7.out.tail.tail).later B8); clear B8))
    go_ret
    exact ⟨by simp, K8.out.into (List.mem_cons_self)⟩
  · have C14 : Hid (∀ W, All [inC w] W → Calls Tryz.prog 14 #[.string ⟨l.toArray⟩] W fun r w' => r = .returned (.tuple #[.agg (Ev.zero 0).cells.toArray, .int .i64 (rlErr l)]) ∧ All [inC w] w') := hid (fun W hW => by
      refine (CR.out W hW).mono ?_
      rintro r w' ⟨EC, rfl, hbad, _⟩
      obtain ⟨e1, e2⟩ := hbad hX
      subst e1
      exact ⟨rfl, e2⟩)
    have C13 : Hid (∀ G W, All (blkC G (Ev.zero 0).cells 36 :: [inC w]) W → Calls Tryz.prog 13 #[.agg (Ev.zero 0).cells.toArray, .agg (Ev.zero 0).cells.toArray] W fun r w' => r = .returned (.bool true) ∧ Below w.heap.size w w') := hid (fun G W hW =>
      (sameEvent_true (Ev.zero 0) (items := []) (data := []) hW (fun V _ => Rt_nil V) (fun V _ => Rt_nil V) (fun V _ => BRd_nil V) (fun V _ => BRd_nil V) (by simp) (by simp)).mono fun r w' h => ⟨h.1, h.2.tail.into (List.mem_cons_self)⟩)
    have hx' : (rlErr l != 0) = true := by simpa using hX
    have I2 : Hid ((Tryz.prog.info? 36).map (·.size) = some (Ev.zero 0).cells.toArray.size) := hid (by kernel_rfl)
    have O2 : Hid ((Ev.zero 0).cells.toArray.all (·.oneCell') = true) := hid (by kernel_rfl)
    clear hE hE' CR hl hX
    generalize rlErr l = X at *
    generalize ByteArray.mk l.toArray = L at *
    go_enter Tryz.func6, Tryz.ntmps6
    go_upto_region 3 with (go_at_call 9; refine CS.out.mono ?_; rintro r w2 ⟨rfl, B2⟩; have K2 := hid B2; clear B2)
    go_upto_region 4 with (first | (go_at_call 14; refine (C14.out _ K2.out).mono ?_; rintro r w4 ⟨rfl, B4⟩; have K4 := hid B4; clear B4) | (refine wpList_store_row rfl 36 _ _ rfl w4.heap.size (Ev.zero 0).cells.toArray rfl rfl 36 _ (heap_alloc_new w4 _) I2.out rfl O2.out ?_; rw [World.setRow_alloc_new]))
    have K5 := hid (K4.out.addBlk (Ev.zero 0).cells 36)
    have HB := hid (K5.out.blk (g := w4.heap.size) (vs := (Ev.zero 0).cells) (t := 36) (List.mem_cons_self))
    have C5 := hid (C13.out w4.heap.size _ K5.out)
    generalize w4.alloc (.cells (Ev.zero 0).cells.toArray 36) = w5 at *
    go_wp2_with (first | (refine wpList_load_row rfl 36 _ rfl w4.heap.size rfl 36 (Ev.zero 0).cells.toArray (0, 0) _ HB.out Tryz.underlying36 rfl I2.out ?_) | (go_at_call 13; refine C5.out.mono ?_; rintro r w6 ⟨rfl, B6⟩; have K6 := hid B6; clear B6))
    go_ret
    exact ⟨rfl, K6.out⟩
end Go.Proofs.YtfeppannfcbakaaGreatDoor

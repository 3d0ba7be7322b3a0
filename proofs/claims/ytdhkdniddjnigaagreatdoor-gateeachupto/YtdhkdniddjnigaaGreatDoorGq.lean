import Derived.Test.YtdhkdniddjnigaaGreatDoorGn
namespace Go.Proofs.YtdhkdniddjnigaaGreatDoor
open Go.RowKit
set_option linter.unusedVariables false

/-- A gate that has been told nothing. -/
def gs0 (x : Px) (n1 n2 : Int) : Gs := ⟨1, [], false, 0, [], x, n1, n2⟩
theorem config_any {w : World} : Calls Tryz.prog 13 #[] w fun e w' => e = .returned (cfgV 3 2 2 3 16 64 4 4 16 4) ∧ w' = w.alloc (cfgB 3 2 2 3 16 64 4 4 16 4) := by
  go_enter Tryz.func13, Tryz.ntmps13
  go_wp2
  refine bodyPost_ret (v := cfgV 3 2 2 3 16 64 4 4 16 4) (by simp only [results, Tryz.f13]; go_simp) rfl ?_
  exact ⟨rfl, rfl⟩
set_option maxHeartbeats 1600000 in
set_option maxRecDepth 1000000 in
theorem New_gt {cs : List Comp} {w : World} (h : All cs w) (a0 a1 a2 a3 a4 a5 a6 a7 a8 a9 id : Int) (hc : cfgOK a0 a1 a2 a3 a4 a5 a6 a7 a8 a9 = true) (hi : 0 ≤ id) (hi2 : id < a1) :
    Calls Tryz.prog 7 #[cfgV a0 a1 a2 a3 a4 a5 a6 a7 a8 a9, .int .i64 id] w fun e w' => ∃ G P p1 p2, e = .returned (.tuple #[.pointer (some ⟨G, 0, none⟩), .int .i64 0]) ∧ Gt G P (gs0 (px0 a0 id p1 p2) a6 a6) [] a6 a5 cs w' := by
  have C := hid (new_ok (h.alloc (cfgB a0 a1 a2 a3 a4 a5 a6 a7 a8 a9)) a0 a1 a2 a3 a4 a5 a6 a7 a8 a9 id hc hi hi2)
  have MK : Hid (∀ P p1 p2 W, All (pxL P (px0 a0 id p1 p2) a6 a5 a6 a6 ++ cs) W → Gt W.heap.size P (gs0 (px0 a0 id p1 p2) a6 a6) [] a6 a5 cs (W.alloc (.cells #[.int .i64 1, .slice none 0 0, .bool false, .pointer (some ⟨P, 0, none⟩), .int .i64 0, .slice none 0 0, .slice none 0 0] 79))) := hid (fun P p1 p2 W hW => by
    have A := (All.addNil (e := 5) (All.addNil (e := 5) (All.addRow0 (e := 136) (size := 2) hW))).addBlk [.int .i64 1, .slice none 0 0, .bool false, .pointer (some ⟨P, 0, none⟩), .int .i64 0, .slice none 0 0, .slice none 0 0] 79
    exact ⟨.slice none 0 0, .slice none 0 0, .slice none 0 0, A⟩)
  clear h hc hi hi2
  go_enter Tryz.func7, Tryz.ntmps7
  go_wp2_with (go_at_call 21; refine C.out.mono ?_; rintro e w2 ⟨P, p1, p2, rfl, A2⟩; have G2 := hid (MK.out P p1 p2 w2 A2); clear A2)
  go_ret2
  exact ⟨_, P, p1, p2, rfl, G2.out⟩
set_option maxRecDepth 1000000 in
theorem Out_gt {G P : Nat} {s : Gs} {tl : List UInt8} {b m : Int} {cs : List Comp} {w : World} (h : Gt G P s tl b m cs w) :
    Calls Tryz.prog 16 #[.pointer (some ⟨G, 0, none⟩)] w fun e w' => ∃ v, e = .returned v ∧ Gt G P s [] b m (ownC 5 v (cellsB tl) :: cs) w' := by
  obtain ⟨txv, wsv, tov, A⟩ := h
  obtain ⟨ao, c, rfl⟩ := owns_form A.tail.tail.1.2.1
  have c6 : w.cell? ⟨G, 6, none⟩ = some (.slice ao (cellsB tl).length c) := Gt.cell A 6
  have f6 := Gt.free A 6
  have A2 := (A.setBlk 6 (.slice none 0 0)).perm (List.perm_middle (l₁ := [_, _]))
  have A3 := (A2.perm (List.Perm.cons _ (List.Perm.swap _ _ _)))
  have N : Hid (Gt G P s [] b m (ownC 5 (.slice ao (cellsB tl).length c) (cellsB tl) :: cs) (w.setCell ⟨G, 6, none⟩ (.slice none 0 0))) := hid (by
    have A4 := ((All.addNil (e := 5) A2).perm (perm4 _ _ _ _ _).symm)
    refine ⟨txv, wsv, .slice none 0 0, ?_⟩
    have A5 : All (ownC 5 (.slice ao (cellsB tl).length c) (cellsB tl) :: (gtL G P s [] b m txv wsv (.slice none 0 0) ++ cs)) (w.setCell ⟨G, 6, none⟩ (.slice none 0 0)) := by
      have B0 := All.addNil (e := 5) A2
      -- nil :: told :: blk :: tx :: ws :: rest
      have B1 := B0.swap
      -- told :: nil :: blk :: tx :: ws :: rest
      exact B1.perm (List.Perm.cons _ (perm3 _ _ _ _))
    exact A5.perm (List.perm_middle (l₁ := gtL G P s [] b m txv wsv (.slice none 0 0))).symm)
  clear A A2 A3
  generalize (cellsB tl).length = n at *
  go_enter Tryz.func16, Tryz.ntmps16
  go_wp2
  go_ret
  exact ⟨_, rfl, N.out⟩
/-- What waits: wishes, and bytes. -/
def wtN (s : Gs) : Int := if s.long then 8193 else (s.tx.length : Int)
set_option maxRecDepth 1000000 in
theorem Waits_gt {G P : Nat} {s : Gs} {tl : List UInt8} {b m : Int} {cs : List Comp} {w : World} (h : Gt G P s tl b m cs w) :
    Calls Tryz.prog 17 #[.pointer (some ⟨G, 0, none⟩)] w fun e w' => e = .returned (.tuple #[.int .i64 (s.ws.length : Int), .int .i64 (wtN s)]) ∧ Gt G P s tl b m cs w' := by
  obtain ⟨txv, wsv, tov, A⟩ := h
  obtain ⟨aw, cw, rfl⟩ := owns_form A.tail.tail.tail.1.2.1
  obtain ⟨ax, cx, rfl⟩ := owns_form A.tail.1.2.1
  rw [cellsB_length] at A
  have c1 : w.cell? ⟨G, 1, none⟩ = some (.slice ax s.tx.length cx) := Gt.cell A 1
  have c2 : w.cell? ⟨G, 2, none⟩ = some (.bool s.long) := Gt.cell A 2
  have c5 : w.cell? ⟨G, 5, none⟩ = some (.slice aw s.ws.length cw) := Gt.cell A 5
  have C34 : Hid (Calls Tryz.prog 34 #[.pointer (some ⟨G, 0, none⟩)] w.drew fun e w' => e = .returned (.int .i64 (wtN s)) ∧ w' = w.drew) := hid (by
    have d1 : w.drew.cell? ⟨G, 1, none⟩ = some (.slice ax s.tx.length cx) := c1
    have d2 : w.drew.cell? ⟨G, 2, none⟩ = some (.bool s.long) := c2
    generalize w.drew = w1 at *
    unfold wtN
    cases hl : s.long with
    | true =>
      rw [hl] at d2
      clear A
      go_enter Tryz.func34, Tryz.ntmps34
      go_wp2
      go_ret
      exact ⟨by simp, rfl⟩
    | false =>
      rw [hl] at d2
      clear A
      generalize s.tx.length = n at *
      go_enter Tryz.func34, Tryz.ntmps34
      go_wp2
      go_ret
      exact ⟨by simp, rfl⟩)
  have N : Hid (Gt G P s tl b m cs w.drew) := hid ⟨_, _, _, A.drew⟩
  have c5' : w.drew.cell? ⟨G, 5, none⟩ = some (.slice aw s.ws.length cw) := c5
  clear A c1 c2
  generalize s.ws.length = n at *
  go_enter Tryz.func17, Tryz.ntmps17
  go_wp2_with fail
  go_region_law (go_simp; go_at_call 34; refine C34.out.mono ?_; rintro e w2 ⟨rfl, rfl⟩)
  all_goals
    go_wp2
    go_ret2
    exact ⟨rfl, N.out⟩
end Go.Proofs.YtdhkdniddjnigaaGreatDoor

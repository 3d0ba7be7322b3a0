import Derived.Test.YtdhkdniddjnigaaGreatDoorBas
namespace Go.Proofs.YtdhkdniddjnigaaGreatDoor
open Go.RowKit
set_option linter.unusedVariables false

abbrev rdV (st : Int) (wv dv : Value) (op es cd : Int) : List Value := [.int .i64 st, wv, dv, .int .i64 op, .int .i64 es, .int .u8 cd]
/-- A reader's parts. -/
abbrev rdL (B : Nat) (st : Int) (wv dv : Value) (op es cd : Int) (ws : Ws) (wd : List UInt8) : List Comp := [blkC B (rdV st wv dv op es cd) 209, ownC 9 wv (txW ws), ownC 5 dv (cellsB wd)]

theorem rd_cells {B : Nat} {st : Int} {wv dv : Value} {op es cd : Int} {cs : List Comp} {w : World} (h : All (blkC B (rdV st wv dv op es cd) 209 :: cs) w) :
    (w.cell? ⟨B, 0, none⟩ = some (.int .i64 st) ∧ w.cell? ⟨B, 1, none⟩ = some wv ∧ w.cell? ⟨B, 2, none⟩ = some dv ∧ w.cell? ⟨B, 3, none⟩ = some (.int .i64 op) ∧ w.cell? ⟨B, 4, none⟩ = some (.int .i64 es) ∧ w.cell? ⟨B, 5, none⟩ = some (.int .u8 cd)) ∧ ∀ j, w.frozen? ⟨B, j, none⟩ = false := by
  have hb := h.1.2.1
  exact ⟨⟨by rw [cell_at hb]; rfl, by rw [cell_at hb]; rfl, by rw [cell_at hb]; rfl, by rw [cell_at hb]; rfl, by rw [cell_at hb]; rfl, by rw [cell_at hb]; rfl⟩, fun j => free_at hb j⟩

set_option maxRecDepth 1000000 in
theorem begin_any {B : Nat} {st s : Int} {wv dv : Value} {op es cd : Int} {ws : Ws} {wd : List UInt8} {cs : List Comp} {w : World} (h : All (rdL B st wv dv op es cd ws wd ++ cs) w) :
    Calls Tryz.prog 157 #[ptr B, .int .i64 s] w fun e w' => e = .returned (.tuple #[]) ∧ All (rdL B s wv (.slice none 0 0) op es cd ws [] ++ cs) w' := by
  obtain ⟨⟨s0, s1, s2, s3, s4, s5⟩, hf⟩ := rd_cells h
  have f0 := hf 0
  have f2 := hf 2
  have A1 := (h.setBlk 2 (.slice none 0 0)).setBlk 0 (.int .i64 s)
  have A2 : Hid (All (rdL B s wv (.slice none 0 0) op es cd ws [] ++ cs) ((w.setCell ⟨B, 2, none⟩ (.slice none 0 0)).setCell ⟨B, 0, none⟩ (.int .i64 s))) := by
    have A3 : All (blkC B (rdV s wv (.slice none 0 0) op es cd) 209 :: ownC 9 wv (txW ws) :: cs) ((w.setCell ⟨B, 2, none⟩ (.slice none 0 0)).setCell ⟨B, 0, none⟩ (.int .i64 s)) := by
      have := A1.perm (ds := ownC 5 dv (cellsB wd) :: blkC B (rdV s wv (.slice none 0 0) op es cd) 209 :: ownC 9 wv (txW ws) :: cs) (by
        refine List.Perm.trans ?_ (List.perm_middle (l₁ := [blkC B (rdV s wv (.slice none 0 0) op es cd) 209, ownC 9 wv (txW ws)]))
        exact List.Perm.refl _)
      exact this.tail
    have := (All.addNil (e := 5) A3).perm (ds := rdL B s wv (.slice none 0 0) op es cd ws [] ++ cs) (by
      refine List.Perm.symm (List.Perm.trans ?_ (List.perm_middle (l₁ := [blkC B (rdV s wv (.slice none 0 0) op es cd) 209, ownC 9 wv (txW ws)])))
      exact List.Perm.refl _)
    exact this
  clear A1 h hf
  go_enter Tryz.func157, Tryz.ntmps157
  go_wp2
  go_end0
  exact ⟨rfl, A2.out⟩

theorem perm3a {α : Type} (a b c : α) (cs : List α) : (a :: b :: c :: cs).Perm (c :: a :: b :: cs) := by
  refine List.Perm.trans ?_ (List.perm_middle (l₁ := [a, b]) (a := c) (l₂ := cs))
  exact List.Perm.refl _

set_option maxHeartbeats 800000 in
set_option maxRecDepth 1000000 in
theorem take_any {B : Nat} {st : Int} {wv dv : Value} {op es cd : Int} {ws : Ws} {wd : List UInt8} {b : UInt8} {cs : List Comp} {w : World} (h : All (rdL B st wv dv op es cd ws wd ++ cs) w) (hl : wd.length + 1 ≤ 140737488355328) :
    Calls Tryz.prog 208 #[ptr B, .int .u8 (b.toNat : Int)] w fun e w' => e = .returned (.tuple #[]) ∧ ∃ dv', All (rdL B 3 wv dv' op es cd ws (wd ++ [b]) ++ cs) w' := by
  obtain ⟨⟨s0, s1, s2, s3, s4, s5⟩, hf⟩ := rd_cells h
  obtain ⟨ao0, c0, rfl⟩ := owns_form (h.tail.tail.1.2.1 : w.ownsRow 0 5 1 dv _ _)
  have hBw : B < w.heap.size := (h.1.2.2 B (by simp [blkC]))
  obtain ⟨ao, c, w1, hr, A1⟩ := app_byte (h.perm (perm3a _ _ _ _)) b hl
  have hb1 := A1.tail.1.2.1
  obtain ⟨⟨t0, t1, t2, t3, t4, t5⟩, hf1⟩ := rd_cells A1.tail
  have f0 := hf1 0
  have f2 := hf1 2
  have A2 := hid (((A1.perm (perm3a _ _ _ _).symm).setBlk 2 (.slice ao (wd.length + 1) c)).setBlk 0 (.int .i64 3))
  rw [cellsB_length] at *
  have R := hid hr
  clear hr A1 h hf1 hb1 hf
  generalize hn : wd.length = n at *
  clear hn
  generalize (b.toNat : Int) = bi at *
  go_enter Tryz.func208, Tryz.ntmps208
  go_wp2_with (at_builtin; refine wpList_append_run rfl _ _ 40 rfl _ _ _ _ rfl rfl R.out ?_)
  go_end0
  exact ⟨rfl, _, A2.out⟩
end Go.Proofs.YtdhkdniddjnigaaGreatDoor

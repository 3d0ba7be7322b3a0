import Derived.Test.YtdhkdniddjnigaaGreatDoorRd
namespace Go.Proofs.YtdhkdniddjnigaaGreatDoor
open Go.RowKit
set_option linter.unusedVariables false

set_option maxHeartbeats 1600000 in
set_option maxRecDepth 1000000 in
theorem end_any {B : Nat} {st : Int} {wv dv : Value} {op es cd : Int} {ws : Ws} {wd : List UInt8} {cs : List Comp} {w : World} (h : All (rdL B st wv dv op es cd ws wd ++ cs) w) (hl : ws.length + 1 ≤ 1000000000000) :
    Calls Tryz.prog 159 #[ptr B] w fun e w' => e = .returned (.tuple #[]) ∧ ∃ wv', All (rdL B st wv' dv op es cd (ws ++ [wd]) wd ++ cs) w' := by
  have h := h.drew
  obtain ⟨⟨s0, s1, s2, s3, s4, s5⟩, hf⟩ := rd_cells h
  obtain ⟨ao0, c0, rfl⟩ := owns_form (h.tail.tail.1.2.1 : w.drew.ownsRow 0 5 1 dv _ _)
  obtain ⟨ao1, c1, rfl⟩ := owns_form (h.tail.1.2.1 : w.drew.ownsRow 0 9 1 wv _ _)
  have hBw : B < w.drew.heap.size := (h.1.2.2 B (by simp [blkC]))
  have cv := conv_string (reads_own h.tail.tail)
  have u1 : (w.alloc (.cells #[.string ⟨wd.toArray⟩] 9)).cell? ⟨B, 1, none⟩ = _ := cell_under (ba w.drew (.cells #[.string ⟨wd.toArray⟩] 9)) hBw s1
  obtain ⟨ao, c, w1, hr, A1⟩ := app_txt h.swap wd hl
  obtain ⟨⟨t0, t1, t2, t3, t4, t5⟩, hf1⟩ := rd_cells A1.swap
  have f1 := hf1 1
  have A2 := hid (A1.swap.setBlk 1 (.slice ao (ws.length + 1) c))
  rw [txW_length, cellsB_length] at *
  have R := hid hr
  clear hr A1 h hf1 hf
  generalize hn : wd.length = n at *
  clear hn
  generalize hm : ws.length = m at *
  clear hm
  generalize hx : ByteArray.mk wd.toArray = X at *
  clear hx
  go_enter Tryz.func159, Tryz.ntmps159
  go_wp2_with fail
  go_region_law (refine step_append_run (by rfl) (.tmp 6) (.tmp 12) 43 (by rfl) _ _ _ _ (by rfl) (by rfl) R.out ?_)
  all_goals (go_end0; exact ⟨rfl, _, A2.out⟩)
end Go.Proofs.YtdhkdniddjnigaaGreatDoor

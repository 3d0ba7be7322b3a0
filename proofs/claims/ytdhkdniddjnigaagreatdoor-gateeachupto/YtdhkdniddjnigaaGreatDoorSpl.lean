import Derived.Test.YtdhkdniddjnigaaGreatDoorRd6
namespace Go.Proofs.YtdhkdniddjnigaaGreatDoor
open Go.RowKit
set_option linter.unusedVariables false

/-- What Split answers, in memory of its own. -/
def SplitPost (A : Ans) (cs : List Comp) (e : Ending) (w' : World) : Prop :=
  ∃ v, e = .returned (.tuple #[v, .int .i64 (A.at : Int), .int .i64 (A.err : Int)]) ∧ All (ownC 9 v (txW A.ws) :: cs) w'

set_option maxRecDepth 1000000 in
theorem answer_bad {B n k : Nat} {cs : List Comp} {w : World} (h : All cs w) :
    Calls Tryz.prog 161 #[ptr B, .int .i64 (n : Int), .int .i64 (k : Int)] w (SplitPost (.byte k) cs) := by
  have A := hid (All.addNil (e := 9) h)
  have hk : ((k : Int) != -1) = true := by simp
  clear h
  go_enter Tryz.func161, Tryz.ntmps161
  go_wp2
  go_ret3
  exact ⟨_, rfl, A.out⟩

theorem perm_w {α : Type} (a b c : α) (cs : List α) : (a :: b :: c :: cs).Perm (a :: c :: b :: cs) := by
  exact List.Perm.cons _ (List.Perm.swap _ _ _)

set_option maxHeartbeats 800000 in
set_option maxRecDepth 1000000 in
theorem answer_fin {B n : Nat} {s : St} {ws : Ws} {cs : List Comp} {w : World} (h : RdAt B s ws cs w) (hl2 : ws.length + 1 ≤ 1000000000000) :
    Calls Tryz.prog 161 #[ptr B, .int .i64 (n : Int), .int .i64 (-1)] w (SplitPost (finW s ws n) cs) := by
  obtain ⟨st, wv, dv, op, es, cd, wd, hF, A⟩ := h
  by_cases h3 : 3 ≤ st
  · have e1 : finW s ws n = .stop n := by
      cases s <;> simp only [Fits] at hF <;> simp only [finW] <;> omega
    rw [e1]
    obtain ⟨⟨s0, s1, s2, s3, s4, s5⟩, hf⟩ := rd_cells A
    have D := hid (All.addNil (e := 9) A.tail.tail.tail)
    clear A hf hF e1
    go_enter Tryz.func161, Tryz.ntmps161
    go_wp2
    go_ret3
    exact ⟨_, rfl, D.out⟩
  · have h3' : st < 3 := by omega
    by_cases h1 : st = 1
    · have e1 : finW s ws n = .ok (ws ++ [wd]) := by
        cases s <;> simp only [Fits] at hF <;> simp only [finW] <;> (first | omega | (rw [hF.2]))
      rw [e1]
      subst h1
      obtain ⟨⟨s0, s1, s2, s3, s4, s5⟩, hf⟩ := rd_cells A
      have E := hid (end_any A hl2)
      clear A hf hF e1 h3 h3'
      go_enter Tryz.func161, Tryz.ntmps161
      go_wp2_with (go_at_call 159; refine E.out.mono ?_; rintro e w1 ⟨rfl, wv', A1⟩; clear s0 s1 s2 s3 s4 s5; have hc := rd_cells A1; obtain ⟨⟨s0, s1, s2, s3, s4, s5⟩, hf⟩ := hc; have D := hid (((A1.tail).perm (List.Perm.swap _ _ _)).tail); clear A1 hf)
      go_ret3
      exact ⟨_, rfl, D.out⟩
    · have e1 : finW s ws n = .ok ws := by
        cases s <;> simp only [Fits] at hF <;> simp only [finW] <;> omega
      have n1 : (st == 1) = false := by simpa using h1
      rw [e1]
      obtain ⟨⟨s0, s1, s2, s3, s4, s5⟩, hf⟩ := rd_cells A
      have D := hid (((A.tail).perm (List.Perm.swap _ _ _)).tail)
      clear A hf hF e1 h1
      go_enter Tryz.func161, Tryz.ntmps161
      go_wp2
      go_ret3
      exact ⟨_, rfl, D.out⟩

/-- A byte more in the word. -/
theorem word_app {B : Nat} {st : Int} {wv dv : Value} {op es cd : Int} {ws : Ws} {wd : List UInt8} {cs : List Comp} {w : World} (b : UInt8) (h : All (rdL B st wv dv op es cd ws wd ++ cs) w) (hl : wd.length + 1 ≤ 140737488355328) :
    ∃ ao0 c0 ao c w1, dv = .slice ao0 wd.length c0 ∧ (Builtin.append_ #[40, 40] 40 #[.slice ao0 wd.length c0, .slice (some ⟨w.heap.size, 0, none⟩) 1 1]).run Tryz.prog (w.alloc (.cells #[.int .u8 (b.toNat : Int)] 5)) = .ok (.slice ao (wd.length + 1) c) w1 ∧
      w.cell? ⟨B, 2, none⟩ = some (.slice ao0 wd.length c0) ∧ w1.cell? ⟨B, 2, none⟩ = some (.slice ao0 wd.length c0) ∧ w1.frozen? ⟨B, 2, none⟩ = false ∧ All (rdL B st wv (.slice ao (wd.length + 1) c) op es cd ws (wd ++ [b]) ++ cs) (w1.setCell ⟨B, 2, none⟩ (.slice ao (wd.length + 1) c)) := by
  obtain ⟨⟨s0, s1, s2, s3, s4, s5⟩, hf⟩ := rd_cells h
  obtain ⟨ao0, c0, rfl⟩ := owns_form (h.tail.tail.1.2.1 : w.ownsRow 0 5 1 dv _ _)
  obtain ⟨ao, c, w1, hr, A1⟩ := app_byte (h.perm (perm3a _ _ _ _)) b hl
  obtain ⟨⟨t0, t1, t2, t3, t4, t5⟩, hf1⟩ := rd_cells A1.tail
  rw [cellsB_length] at *
  exact ⟨ao0, c0, ao, c, w1, rfl, hr, s2, t2, hf1 2, (A1.perm (perm3a _ _ _ _).symm).setBlk 2 (.slice ao (wd.length + 1) c)⟩
end Go.Proofs.YtdhkdniddjnigaaGreatDoor

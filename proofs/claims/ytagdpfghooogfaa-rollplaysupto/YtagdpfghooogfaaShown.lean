import Derived.Test.YtagdpfghooogfaaJ4
namespace Go.Proofs.Ytagdpfghooogfaa
open Go.RowKit
set_option linter.unusedVariables false

theorem Txts.nil (w : World) : Txts w (.slice none 0 0) [] := ⟨none, 0, rfl, by simp, .inl rfl⟩

theorem rowB_ex : rowB 2 5 0 1 [] = [2, 5, 0, 1, 0] := by decide +kernel
theorem may_ex1 : may 2 5 0 1 [] = true := by simp [may, chkX]
theorem may_ex2 : may 2 6 0 0 [] = true := by simp [may, chkX]

set_option maxHeartbeats 1600000 in
set_option maxRecDepth 1000000 in
theorem shown_all {cs : List Comp} {w : World} (h : All cs w) : Calls Try.prog 7 #[] w fun e w' => e = .returned (.bool true) ∧ All cs w' := by
  have HA := hid h
  clear h
  go_enter Try.func7, Try.ntmps7
  go_wp2_with fail
  refine (new_any HA.out).mono ?_
  rintro e w1 ⟨g, rfl, A1⟩
  have A := hid A1
  clear A1 HA
  go_wp2_with fail
  refine (set_who (n := 1) (a := 1) (c := 0) (k := 0) (cl := 8) A.out (by omega) ⟨_, _, _, rfl⟩).mono ?_
  rintro e w2 ⟨rfl, A2⟩
  have A := hid A2
  clear A2
  go_wp2_with fail
  refine (set_off (n := 2) (a := 5) (c := 0) (k := 1) (i := 3) (p := .zero) (l := []) A.out (by omega) rfl (Txts.nil _) (by simp) (by simp) may_ex1 rfl).mono ?_
  rintro e w3 ⟨rfl, s', A3⟩
  generalize hps : (List.replicate 8 Pl.zero).set 3 ⟨true, 2, 5, 0, 1, s', []⟩ = ps at A3
  have HP : Hid (ps[3]? = some ⟨true, 2, 5, 0, 1, s', []⟩) := by rw [← hps]; exact rfl
  clear hps
  have A := hid A3
  clear A3
  go_wp2_with fail
  refine (set_old (n := 2) (a := 6) (c := 0) (k := 0) (i := 3) (l := []) A.out (by omega) HP.out (Txts.nil _) (by simp) may_ex2 rfl (by simp)).mono ?_
  rintro e w4 ⟨rfl, A4⟩
  have A := hid A4
  clear A4
  go_wp2_with fail
  refine (last_on (i := 3) A.out HP.out (by omega) rfl (by simp)).mono ?_
  rintro e w5 ⟨ao, c', rfl, A5⟩
  have A := hid (A5.tail.addBlk [.int .i64 2, .int .i64 5, .int .i64 0, .int .i64 1, .slice ao 0 c'] 39)
  clear A5
  simp only [List.length_nil]
  go_wp2_with fail
  refine (bytes_on (i := 3) (A.out.perm List.perm_middle.symm) HP.out (by omega) rfl may_ex1).mono ?_
  rw [rowB_ex]
  rintro e w6 ⟨so, sc, rfl, A6⟩
  have er : w6.heap[w5.heap.size]? = some (.cells #[.int .i64 2, .int .i64 5, .int .i64 0, .int .i64 1, .slice ao 0 c'] 39 (0, 0)) := A6.blk (vs := [.int .i64 2, .int .i64 5, .int .i64 0, .int .i64 1, .slice ao 0 c']) (by simp)
  have r0 : w6.cell? ⟨w5.heap.size, 0, none⟩ = some (.int .i64 2) := by rw [cell_at er]; rfl
  have r1 : w6.cell? ⟨w5.heap.size, 1, none⟩ = some (.int .i64 5) := by rw [cell_at er]; rfl
  have r2 : w6.cell? ⟨w5.heap.size, 2, none⟩ = some (.int .i64 0) := by rw [cell_at er]; rfl
  have r3 : w6.cell? ⟨w5.heap.size, 3, none⟩ = some (.int .i64 1) := by rw [cell_at er]; rfl
  have r4 : w6.cell? ⟨w5.heap.size, 4, none⟩ = some (.slice ao 0 c') := by rw [cell_at er]; rfl
  have own : w6.ownsRow 0 5 1 (.slice so 5 sc) (cellsB [2, 5, 0, 1, 0]).length (cellsB [2, 5, 0, 1, 0]) := A6.1.2.1
  obtain ⟨gb, rfl, b0, _⟩ := owns_at own (k := 0) (u := .int .u8 2) rfl
  obtain ⟨gb', e1, b1, _⟩ := owns_at own (k := 1) (u := .int .u8 5) rfl
  simp only [Option.some.injEq, Addr.mk.injEq, and_true] at e1
  obtain rfl := e1
  have HF := hid (A6.tail.sublist (List.Sublist.trans (.cons _ (.refl _)) (List.sublist_append_right (rollL g ps) (blkC w5.heap.size [.int .i64 2, .int .i64 5, .int .i64 0, .int .i64 1, .slice ao 0 c'] 39 :: cs))))
  clear A A6 own er
  simp only [List.length_cons, List.length_nil]
  go_wp2
  go_ret
  exact ⟨rfl, HF.out⟩

theorem names_walk {w : World} : Calls Try.prog 6 #[] w fun e w' => e = .returned (.bool true) ∧ Below w.heap.size w w' := by
  go_enter Try.func6, Try.ntmps6
  go_wp2_with fail
  refine (shown_all (All.came w)).mono ?_
  rintro e w1 ⟨rfl, A⟩
  have B := hid (A.into (w0 := w) (by simp))
  clear A
  go_wp2
  go_ret
  exact ⟨rfl, B.out⟩

end Go.Proofs.Ytagdpfghooogfaa

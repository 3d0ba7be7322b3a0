import Derived.Test.YtmpbdncgilahkaaShown
namespace Go.Proofs.Ytmpbdncgilahkaa
open Go.RowKit
set_option linter.unusedVariables false

set_option maxRecDepth 1000000 in
theorem names_walk {w : World} : Calls Try.prog 8 #[] w fun e w' => e = .returned (.bool true) ∧ Below w.heap.size w w' := by
  go_enter Try.func8, Try.ntmps8
  go_wp2_with fail
  refine shown_any.mono ?_
  rintro e w1 ⟨rfl, h1⟩
  have H1 := hid h1
  clear h1
  go_wp2
  go_ret
  exact ⟨rfl, H1.out⟩

set_option maxRecDepth 1000000 in
theorem configs_walk {w : World} (a0 a1 a2 a3 a4 a5 a6 a7 a8 a9 : Int) : Calls Try.prog 3 #[cfgV a0 a1 a2 a3 a4 a5 a6 a7 a8 a9] w fun e w' => e = .returned (.bool true) ∧ Below w.heap.size w w' := by
  have B0 := hid (ba w (cfgB a0 a1 a2 a3 a4 a5 a6 a7 a8 a9))
  have hc := heap_alloc_new w (cfgB a0 a1 a2 a3 a4 a5 a6 a7 a8 a9)
  go_enter Try.func3, Try.ntmps3
  go_wp2_with fail
  refine shown_any.mono ?_
  rintro e w1 ⟨rfl, h1⟩
  have hc1 := (h1.block w.heap.size (by simp)).trans hc
  have B1 := hid (B0.out.trans (h1.mono B0.out.size))
  clear h1 hc
  have HC := hid hc1
  clear hc1
  have d0 := cell_at HC.out 0; have d1 := cell_at HC.out 1; have d2 := cell_at HC.out 2; have d3 := cell_at HC.out 3; have d4 := cell_at HC.out 4
  have d5 := cell_at HC.out 5; have d6 := cell_at HC.out 6; have d7 := cell_at HC.out 7; have d8 := cell_at HC.out 8; have d9 := cell_at HC.out 9
  simp only [List.getElem?_toArray, List.getElem?_cons_zero, List.getElem?_cons_succ] at d0 d1 d2 d3 d4 d5 d6 d7 d8 d9
  go_wp2_with fail
  refine (chk_any a0 a1 a2 a3 a4 a5 a6 a7 a8 a9).mono ?_
  rintro e w2 ⟨rfl, h2⟩
  have e1 : ∃ z, chkE (cfgOK a0 a1 a2 a3 a4 a5 a6 a7 a8 a9) = z := ⟨_, rfl⟩
  obtain ⟨z, hz⟩ := e1
  rw [hz]
  have HZ := hid hz
  clear hz d0 d1 d2 d3 d4 d5 d6 d7 d8 d9
  have hc2 := (h2.block w.heap.size (Array.getElem?_eq_some_iff.1 HC.out).1).trans HC.out
  have B2 := hid (B1.out.trans (h2.mono B1.out.size))
  clear h2 HC B1
  have HC := hid hc2
  clear hc2
  have d0 := cell_at HC.out 0; have d1 := cell_at HC.out 1; have d2 := cell_at HC.out 2; have d3 := cell_at HC.out 3; have d4 := cell_at HC.out 4
  have d5 := cell_at HC.out 5; have d6 := cell_at HC.out 6; have d7 := cell_at HC.out 7; have d8 := cell_at HC.out 8; have d9 := cell_at HC.out 9
  simp only [List.getElem?_toArray, List.getElem?_cons_zero, List.getElem?_cons_succ] at d0 d1 d2 d3 d4 d5 d6 d7 d8 d9
  go_wp2_with fail
  refine (chk_ref a0 a1 a2 a3 a4 a5 a6 a7 a8 a9).mono ?_
  rintro e w3 ⟨rfl, h3⟩
  rw [HZ.out]
  have B3 := hid (B2.out.trans (h3.mono B2.out.size))
  clear h3 HC B2 d0 d1 d2 d3 d4 d5 d6 d7 d8 d9 HZ
  go_wp2
  go_ret
  exact ⟨rfl, B3.out⟩
end Go.Proofs.Ytmpbdncgilahkaa

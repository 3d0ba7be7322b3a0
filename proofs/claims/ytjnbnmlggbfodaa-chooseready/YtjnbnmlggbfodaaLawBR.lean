import Derived.Test.YtjnbnmlggbfodaaApp
namespace Go.Proofs.Ytjnbnmlggbfodaa
open Go.RowKit
set_option linter.unusedVariables false

set_option maxHeartbeats 1600000 in
set_option maxRecDepth 1000000 in
theorem best_walk {w : World} {s : Value} {l : List Bal} (hs : BalsAt w s l) (hl : l.length * 32 ≤ 140737488351232) (n : Int) : Calls Try.prog 3 #[.int .i64 n, s] w fun e w' => e = .returned (.bool true) ∧ Below w.heap.size w w' := by
  have HS := hid hs
  obtain ⟨ao, c, rfl⟩ := hs.form
  obtain ⟨ao2, c2, w1, HR, A1⟩ := copyB (All.came w) hs (by omega)
  have HR := hid HR
  have A1 := hid A1
  have hl2 : l.length ≤ 9223372036854775807 := by omega
  have C1 := hid (Best_any A1.out.readsB hl2 n)
  clear hs
  have HLN : Hid (∀ i, i < l.length → ∃ x, Hid (l[i]? = some x)) := hid (fun i h => ⟨_, hid (List.getElem?_eq_getElem h)⟩)
  have C2 := hid (fun w2 (b : Below w.heap.size w w2) => RBest_any (HS.out.later b) hl2 n)
  generalize bsR n l = R at *
  obtain ⟨R1, R2, R3⟩ := R
  generalize hm : l.length = m at *
  have hl3 : m ≤ 140737488351232 := by omega
  clear hm hl hl2
  go_enter Try.func3, Try.ntmps3
  go_upto_region 2 with (at_builtin; refine wpList_append_run rfl _ (.tmp 13) 22 rfl _ _ _ _ rfl rfl HR.out ?_)
  clear HR
  go_wp2_with fail
  refine C1.out.mono ?_
  rintro e w2 ⟨rfl, b2⟩
  have A2 := hid (A1.out.later b2)
  have C3 := hid (C2.out w2 (A2.out.into (w0 := w) (by simp)))
  clear C1 C2 A1 b2
  go_wp2_with fail
  refine C3.out.mono ?_
  rintro e w3 ⟨rfl, b3⟩
  have A3 := hid (A2.out.later b3)
  clear A2 b3 C3
  go_wp2
  go_loopw [44] (fun iv wr => ∃ i : Nat, i ≤ m ∧ iv = .int .i64 (i : Int) ∧ Hid (All [rowB (.slice ao2 m c2) l, inC w] wr)) (fun iv _ => m - (intOf iv).toNat)
  case atStart => exact ⟨0, by omega, rfl, A3⟩
  case round =>
    clear A3
    obtain ⟨i, hi, rfl, A3⟩ := hrel
    by_cases hlt : i < m
    · obtain ⟨x, hx⟩ := HLN.out i hlt
      have BR := hid (A3.out.into (w0 := w) (by simp))
      obtain ⟨g, o, rfl, hg, x0, x1, x2, x3⟩ := HS.out.at BR.out hx.out
      obtain ⟨g2, o2, rfl, hg2, y0, y1, y2, y3⟩ := A3.out.readsB.at (Below.refl _ _) hx.out
      have EQ := fun w => eq27 x x w
      simp only [decide_true] at EQ
      unfold Bal.V at EQ
      have l1 : decide ((i : Int) < (m : Int)) = true := decide_eq_true (by omega)
      have l2 : (i : Int) < (m : Int) := by omega
      have l3 : (0 : Int) ≤ (i : Int) := by omega
      go_upto_region 9 with fail
      go_quiet (fail)
      go_wp2
      go_roundw
      case rel => exact ⟨i + 1, by omega, by go_num, hid (A3.out.drewN _)⟩
      case measure => simp [intOf]; omega
    · obtain rfl : i = m := by omega
      have l1 : decide ((i : Int) < (i : Int)) = false := decide_eq_false (by omega)
      go_wp2
      go_ret
      exact ⟨rfl, A3.out.into (w0 := w) (by simp)⟩

set_option maxHeartbeats 1600000 in
set_option maxRecDepth 1000000 in
theorem ready_walk {w : World} {s : Value} {l : List Wit} (hs : WitsAt w s l) (hl : l.length * 24 ≤ 140737488351232) (n me fo : Int) : Calls Try.prog 4 #[.int .i64 n, .int .i64 me, .int .i64 fo, s] w fun e w' => e = .returned (.bool true) ∧ Below w.heap.size w w' := by
  have HS := hid hs
  obtain ⟨ao, c, rfl⟩ := hs.form
  obtain ⟨ao2, c2, w1, HR, A1⟩ := copyW (All.came w) hs (by omega)
  have HR := hid HR
  have A1 := hid A1
  have hl2 : l.length ≤ 9223372036854775807 := by omega
  have C1 := hid (Ready_any A1.out.readsW hl2 n me fo)
  clear hs
  have HLN : Hid (∀ i, i < l.length → ∃ x, Hid (l[i]? = some x)) := hid (fun i h => ⟨_, hid (List.getElem?_eq_getElem h)⟩)
  have C2 := hid (fun w2 (b : Below w.heap.size w w2) => RReady_any (HS.out.later b) hl2 n me fo)
  generalize rdR n me fo l = R at *
  obtain ⟨R1, R2, R3⟩ := R
  generalize hm : l.length = m at *
  have hl3 : m ≤ 140737488351232 := by omega
  clear hm hl hl2
  go_enter Try.func4, Try.ntmps4
  go_upto_region 2 with (at_builtin; refine wpList_append_run rfl _ (.tmp 17) 29 rfl _ _ _ _ rfl rfl HR.out ?_)
  clear HR
  go_wp2_with fail
  refine C1.out.mono ?_
  rintro e w2 ⟨rfl, b2⟩
  have A2 := hid (A1.out.later b2)
  have C3 := hid (C2.out w2 (A2.out.into (w0 := w) (by simp)))
  clear C1 C2 A1 b2
  go_wp2_with fail
  refine C3.out.mono ?_
  rintro e w3 ⟨rfl, b3⟩
  have A3 := hid (A2.out.later b3)
  clear A2 b3 C3
  go_wp2
  go_loopw [52] (fun iv wr => ∃ i : Nat, i ≤ m ∧ iv = .int .i64 (i : Int) ∧ Hid (All [rowW (.slice ao2 m c2) l, inC w] wr)) (fun iv _ => m - (intOf iv).toNat)
  case atStart => exact ⟨0, by omega, rfl, A3⟩
  case round =>
    clear A3
    obtain ⟨i, hi, rfl, A3⟩ := hrel
    by_cases hlt : i < m
    · obtain ⟨x, hx⟩ := HLN.out i hlt
      have BR := hid (A3.out.into (w0 := w) (by simp))
      obtain ⟨g, o, rfl, hg, x0, x1, x2⟩ := HS.out.at BR.out hx.out
      obtain ⟨g2, o2, rfl, hg2, y0, y1, y2⟩ := A3.out.readsW.at (Below.refl _ _) hx.out
      have EQ := fun w => eq33 x x w
      simp only [decide_true] at EQ
      unfold Wit.V at EQ
      have l1 : decide ((i : Int) < (m : Int)) = true := decide_eq_true (by omega)
      have l2 : (i : Int) < (m : Int) := by omega
      have l3 : (0 : Int) ≤ (i : Int) := by omega
      go_upto_region 9 with fail
      go_quiet (fail)
      go_wp2
      go_roundw
      case rel => exact ⟨i + 1, by omega, by go_num, hid (A3.out.drewN _)⟩
      case measure => simp [intOf]; omega
    · obtain rfl : i = m := by omega
      have l1 : decide ((i : Int) < (i : Int)) = false := decide_eq_false (by omega)
      go_wp2
      go_ret
      exact ⟨rfl, A3.out.into (w0 := w) (by simp)⟩
end Go.Proofs.Ytjnbnmlggbfodaa

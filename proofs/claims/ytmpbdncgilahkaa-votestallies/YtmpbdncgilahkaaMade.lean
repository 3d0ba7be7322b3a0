import Derived.Test.YtmpbdncgilahkaaPt
namespace Go.Proofs.Ytmpbdncgilahkaa
open Go.RowKit
set_option linter.unusedVariables false

/-- A thing as a value: three pointers. -/
abbrev thV (t : Tg) : Value := .agg #[.pointer (some ⟨t.a, 0, none⟩), .pointer (some ⟨t.b, 0, none⟩), .pointer (some ⟨t.f.r, 0, none⟩)]
abbrev thN : Value := .agg #[.pointer none, .pointer none, .pointer none]

theorem new_ws (n : Nat) (h : n ≤ 7) (f : Rfs) (hn : f.n = n) (h1 : f.said = List.replicate n 0) (h2 : f.spoke = List.replicate n false) : wsOf f = [none, none, none, none, none, none, none] ∧ wsT f = [none, none, none, none, none, none, none] := by
  obtain ⟨r, s, p, cs, cp, n', sd, sk⟩ := f
  simp only at hn h1 h2
  subst hn h1 h2
  exact ⟨wsOf_none (f := ⟨r, s, p, cs, cp, n', List.replicate n' 0, List.replicate n' false⟩) (by simp) h, wsT_none (f := ⟨r, s, p, cs, cp, n', List.replicate n' 0, List.replicate n' false⟩) (by simp) h⟩

set_option maxRecDepth 1000000 in
theorem made_ok {w : World} {n : Int} (h1 : 1 ≤ n) (h7 : n ≤ 7) : Calls Try.prog 21 #[.int .i64 n] w fun e w' => ∃ t : Tg, e = .returned (.tuple #[thV t, .bool true]) ∧ Below w.heap.size w w' ∧ Th w' t ∧ ∀ k ∈ blk5 t.a t.b t.f, w.heap.size ≤ k := by
  obtain ⟨m, rfl⟩ : ∃ m : Nat, n = m := ⟨n.toNat, by omega⟩
  have B0 := hid (ba w (.cells #[.pointer none, .pointer none, .pointer none] 42))
  have hX := heap_alloc_new w (.cells #[.pointer none, .pointer none, .pointer none] 42)
  go_enter Try.func21, Try.ntmps21
  go_wp2_with fail
  refine (NewI_ok h1 h7).mono ?_
  rintro e w1 ⟨a, rfl, hB1, ha, TA⟩
  have x1 := (hB1.block w.heap.size (by simp)).trans hX
  have B1 := hid (B0.out.trans (hB1.mono B0.out.size))
  have ha' : w.heap.size < a := by simp at ha; omega
  have TA := hid TA
  clear hB1 hX B0 ha
  have x1 := hid x1
  go_wp2_with fail
  refine (NewS_ok h1 h7).mono ?_
  rintro e w2 ⟨b, rfl, hB2, hb, TB⟩
  have x2 := hid ((hB2.block w.heap.size (Array.getElem?_eq_some_iff.1 x1.out).1).trans x1.out)
  have B2 := hid (B1.out.trans (hB2.mono B1.out.size))
  have TA2 := hid (TA.out.keep (hB2.block a TA.out.lt))
  have hab : a < b := Nat.lt_of_lt_of_le TA.out.lt hb
  have TB := hid TB
  clear hB2 B1 TA x1 hb
  go_wp2_with fail
  refine (RNew_ok (n := m) (by omega) (by omega)).mono ?_
  rintro e w3 ⟨f, rfl, hB3, hR, en, es, ep, hr, hs, hp⟩
  have x3 := hid ((hB3.block w.heap.size (Array.getElem?_eq_some_iff.1 x2.out).1).trans x2.out)
  have B3 := hid (B2.out.trans (hB3.mono B2.out.size))
  have TA3 := TA2.out.keep (hB3.block a TA2.out.lt)
  have TB3 := TB.out.keep (hB3.block b TB.out.lt)
  have hla := TA2.out.lt
  have hlb := TB.out.lt
  have hw := new_ws m (by omega) f en es ep
  have hT : Th w3 ⟨a, b, f⟩ := by
    refine ⟨?_, ?_, hR, by simp only; omega, by simp only; omega, by simp only; omega, by simp only; omega, by simp only; omega, by simp only; omega, by simp only; omega⟩
    · simp only [hw.1, en]; exact TA3
    · simp only [hw.2, en]; exact TB3
  have hBl : ∀ k ∈ blk5 a b f, w.heap.size < k := by
    intro k hk
    have := B2.out.size
    simp only [List.mem_cons, List.not_mem_nil, or_false] at hk
    rcases hk with rfl | rfl | rfl | rfl | rfl <;> omega
  have HT := hid hT
  have HBl := hid hBl
  have cx := cell_at x3.out 0
  have cy := cell_at x3.out 1
  have cz := cell_at x3.out 2
  simp only [List.getElem?_toArray, List.getElem?_cons_zero, List.getElem?_cons_succ] at cx cy cz
  have f0 := free_at x3.out 0
  have f1 := free_at x3.out 1
  have f2 := free_at x3.out 2
  clear hB3 B2 TA2 TB TA3 TB3 hw hT hBl hR en es ep hr hs hp hla hlb hab ha' h1 h7 x2
  go_wp2
  have hf := heap_setCell_same (j := 2) (heap_setCell_same (j := 1) (heap_setCell_same (j := 0) x3.out (.pointer (some ⟨a, 0, none⟩))) (.pointer (some ⟨b, 0, none⟩))) (.pointer (some ⟨f.r, 0, none⟩))
  have hT4 : Th (((w3.setCell ⟨w.heap.size, 0, none⟩ (.pointer (some ⟨a, 0, none⟩))).setCell ⟨w.heap.size, 1, none⟩ (.pointer (some ⟨b, 0, none⟩))).setCell ⟨w.heap.size, 2, none⟩ (.pointer (some ⟨f.r, 0, none⟩))) ⟨a, b, f⟩ := HT.out.keep (fun k hk => by
    have := HBl.out k hk
    rw [other_set _ _ _ (by omega), other_set _ _ _ (by omega), other_set _ _ _ (by omega)])
  have hB4 : Below w.heap.size w (((w3.setCell ⟨w.heap.size, 0, none⟩ (.pointer (some ⟨a, 0, none⟩))).setCell ⟨w.heap.size, 1, none⟩ (.pointer (some ⟨b, 0, none⟩))).setCell ⟨w.heap.size, 2, none⟩ (.pointer (some ⟨f.r, 0, none⟩))) := ((B3.out.setCell (p := ⟨w.heap.size, 0, none⟩) (Nat.le_refl _) _).setCell (p := ⟨w.heap.size, 1, none⟩) (Nat.le_refl _) _).setCell (p := ⟨w.heap.size, 2, none⟩) (Nat.le_refl _) _
  generalize (((w3.setCell ⟨w.heap.size, 0, none⟩ (.pointer (some ⟨a, 0, none⟩))).setCell ⟨w.heap.size, 1, none⟩ (.pointer (some ⟨b, 0, none⟩))).setCell ⟨w.heap.size, 2, none⟩ (.pointer (some ⟨f.r, 0, none⟩))) = w4 at hf hT4 hB4 ⊢
  have g0 := cell_at hf 0
  have g1 := cell_at hf 1
  have g2 := cell_at hf 2
  simp [Array.setIfInBounds] at g0 g1 g2
  refine bodyPost_ret (v := .tuple #[thV ⟨a, b, f⟩, .bool true]) (by simp only [results, show Try.f21.results = #[.cell 2 42, .tmp 3] from rfl]; go_simp) rfl ?_
  exact ⟨⟨a, b, f⟩, rfl, hB4, hT4, fun k hk => Nat.le_of_lt (HBl.out k hk)⟩

set_option maxRecDepth 1000000 in
theorem made_bad {w : World} {n : Int} (h : n < 1 ∨ 7 < n) : Calls Try.prog 21 #[.int .i64 n] w fun e w' => e = .returned (.tuple #[thN, .bool true]) ∧ Below w.heap.size w w' := by
  have H := hid h
  have hX := heap_alloc_new w (.cells #[.pointer none, .pointer none, .pointer none] 42)
  have B0 := hid (ba w (.cells #[.pointer none, .pointer none, .pointer none] 42))
  clear h
  go_enter Try.func21, Try.ntmps21
  go_wp2_with fail
  refine (NewI_bad H.out).mono ?_
  rintro e w1 ⟨rfl, rfl⟩
  go_wp2_with fail
  refine (NewS_bad H.out).mono ?_
  rintro e w1 ⟨rfl, rfl⟩
  go_wp2_with fail
  refine (RNew_bad H.out).mono ?_
  rintro e w1 ⟨rfl, rfl⟩
  go_wp2
  refine bodyPost_ret (v := .tuple #[thN, .bool true]) (by simp only [results, show Try.f21.results = #[.cell 2 42, .tmp 3] from rfl]; go_simp) rfl ?_
  exact ⟨rfl, B0.out⟩
end Go.Proofs.Ytmpbdncgilahkaa

import Derived.Test.YthjoppgomopkfaaRefA
namespace Go.Proofs.Ythjoppgomopkfaa
open Go.RowKit
set_option linter.unusedVariables false

set_option maxRecDepth 1000000 in
theorem rCut_no {w : World} {p n b m c : Nat} {ao : Option Addr} (h : RefAt w p n b (.slice ao m c)) (hb : b + m ≤ 1099511627776) (k : Int) (hk : ¬ ((b : Int) ≤ k ∧ k ≤ ((b + m : Nat) : Int))) : Calls Try.prog 22 #[.pointer (some ⟨p, 0, none⟩), .int .i64 k] w fun e w' => e = .returned (.int .i64 92) ∧ Below w.heap.size w w' := by
  have c1 := h.c1
  have H := hid (rOp_any h hb)
  clear h
  by_cases h1 : k < (b : Int)
  · have e1 : decide (k < (b : Int)) = true := decide_eq_true h1
    go_enter Try.func22, Try.ntmps22
    go_wp2
    go_ret
    exact ⟨rfl, Below.refl _ _⟩
  · have e1 : decide (k < (b : Int)) = false := decide_eq_false h1
    go_enter Try.func22, Try.ntmps22
    go_wp2_with fail
    refine H.out.mono ?_
    rintro e w1 ⟨rfl, hb1⟩
    generalize hq : b + m = q at *
    have h2 : (q : Int) < k := by omega
    have e2 : decide ((q : Int) < k) = true := decide_eq_true h2
    go_wp2
    go_ret
    exact ⟨rfl, hb1⟩

/-- A list from a place on. -/
theorem EntsW.from {w : World} {g m c j : Nat} {l : List Ent} (h : EntsW w (.slice (some ⟨g, 0, none⟩) m c) l) (hj : j ≤ l.length) (hc : ¬ c = j) : EntsW w (.slice (some ⟨g, j * 7, none⟩) (m - j) (c - j)) (l.drop j) := by
  obtain ⟨ao, c', e, h1, h2, h3⟩ := h
  simp only [Value.slice.injEq] at e
  obtain ⟨rfl, rfl, rfl⟩ := e
  refine ⟨some ⟨g, j * 7, none⟩, c - j, by rw [List.length_drop], by rw [List.length_drop]; omega, (fun h => by cases h), fun i x hx => ?_⟩
  rw [List.getElem?_drop] at hx
  obtain ⟨g', o, e, hg, hr⟩ := h3 _ _ hx
  cases e
  exact ⟨g, j * 7, rfl, hg, by rw [Nat.zero_add] at hr; rw [show j * 7 + i * 7 = (j + i) * 7 by omega]; exact hr⟩

set_option maxHeartbeats 1600000 in
set_option maxRecDepth 1000000 in
theorem rCut_ok {p n b : Nat} {v : Value} {l : List Ent} {cs : List Comp} {w : World} (hA : All (refP p n b v l ++ cs) w) (ht : b + l.length ≤ 1099511627776) (hl : l.length ≤ 64) (o : Nat) (h1 : b ≤ o) (h2 : o ≤ b + l.length) : Calls Try.prog 22 #[.pointer (some ⟨p, 0, none⟩), .int .i64 (o : Int)] w fun e w' => e = .returned (.int .i64 0) ∧ ∃ v', All (refP p n o v' (l.drop (o - b)) ++ cs) w' := by
  obtain ⟨ao, c, rfl, hc⟩ := owns7_form hA.refRow
  have c1 := hA.ref.c1
  have H := hid (rOp_any hA.ref ht)
  have HA := hid hA
  clear hA
  have e1 : decide ((o : Int) < (b : Int)) = false := decide_eq_false (by omega)
  have i1 : ¬ ((o : Int) < (b : Int)) := by omega
  go_enter Try.func22, Try.ntmps22
  go_wp2_with fail
  refine H.out.mono ?_
  rintro e w1 ⟨rfl, hb1⟩
  have A1 := hid (HA.out.later hb1)
  generalize hq : b + l.length = q at *
  have e2 : decide ((q : Int) < (o : Int)) = false := decide_eq_false (by omega)
  have i2 : ¬ ((q : Int) < (o : Int)) := by omega
  have d1 := A1.out.ref.c1
  have d2 := A1.out.ref.c2
  obtain ⟨j, hj⟩ : ∃ j, j = o - b := ⟨_, rfl⟩
  have hjl : j ≤ l.length := by omega
  have hw : IntKind.i64.wrap ((o : Int) - (b : Int)) = (j : Int) := by simp [IntKind.wrap, IntKind.bits, IntKind.signed]; omega
  have hji : (j : Int) ≤ (l.length : Int) := by omega
  have FIN : Hid (∀ ao' c' w3, Below w1.heap.size w1 w3 → w3.ownsRow w1.heap.size 39 7 (.slice ao' (l.drop j).length c') (l.drop j).length (flatE (l.drop j)) → w3.cell? ⟨p, 1, none⟩ = some (.int .i64 (b : Int)) ∧ w3.cell? ⟨p, 2, none⟩ = some (.slice ao l.length c) ∧ w3.frozen? ⟨p, 1, none⟩ = false ∧ w3.frozen? ⟨p, 2, none⟩ = false ∧ Hid (All (refP p n o (.slice ao' (l.drop j).length c') (l.drop j) ++ cs) ((w3.setCell ⟨p, 1, none⟩ (.int .i64 (o : Int))).setCell ⟨p, 2, none⟩ (.slice ao' (l.drop j).length c')))) := hid (fun ao' c' w3 hb3 ho3 => by
    have B := A1.out.addRow hb3 ho3
    have er := B.tail.ref
    refine ⟨er.c1, er.c2, free_at er 1, free_at er 2, hid ?_⟩
    have B2 := (B.swap.setBlk 1 (.int .i64 (o : Int))).setBlk 2 (.slice ao' (l.drop j).length c')
    exact B2.cab.tail)
  have hE := hid (EntsW.of_owns A1.out.refRow)
  obtain ⟨s', hs', hsl⟩ : ∃ s', EntsW w1.drew s' (l.drop j) ∧ ((ao = none ∧ s' = .slice none 0 0 ∧ l.length = 0 ∧ c = 0) ∨ (∃ g, ao = some ⟨g, 0, none⟩ ∧ c = j ∧ s' = .slice (some ⟨g, 0, none⟩) 0 0) ∨ (∃ g, ao = some ⟨g, 0, none⟩ ∧ ¬ c = j ∧ s' = .slice (some ⟨g, j * 7, none⟩) (l.length - j) (c - j))) := by
    have hE' := hE.out.later (bd w1)
    rcases A1.out.refRow.2 with ⟨e, e0⟩ | ⟨g, cap, cur, e, _⟩
    · simp only [Value.slice.injEq] at e
      obtain ⟨rfl, _, rfl⟩ := e
      have : l = [] := List.length_eq_zero_iff.1 e0
      subst this
      exact ⟨.slice none 0 0, by simpa using hE', .inl ⟨rfl, rfl, rfl, rfl⟩⟩
    · simp only [Value.slice.injEq] at e
      obtain ⟨rfl, _, rfl⟩ := e
      by_cases hcj : c = j
      · refine ⟨.slice (some ⟨g, 0, none⟩) 0 0, ?_, .inr (.inl ⟨g, rfl, hcj, rfl⟩)⟩
        have : l.drop j = [] := List.drop_eq_nil_of_le (by omega)
        rw [this]
        exact ⟨_, _, rfl, by simp, (fun h => by cases h), fun i x hx => by simp at hx⟩
      · exact ⟨_, hE'.from hjl hcj, .inr (.inr ⟨g, rfl, hcj, rfl⟩)⟩
  obtain ⟨v', w3, hr, hb3, ho3⟩ := app_all hs' (by rw [List.length_drop]; omega)
  obtain ⟨ao', c', rfl⟩ := owns_form ho3
  obtain ⟨k1, k2, f1, f2, HF⟩ := FIN.out ao' c' w3 (below2 (bd w1) hb3) ho3
  have hjj := hj
  clear HA H hb1 c1 FIN hE hb3 ho3 A1
  have HR := hid hr
  clear hr hs' hj ht hl h1 h2 hq
  have HJ := hid hjj
  clear hjj
  simp only [List.length_drop] at HF HR
  rcases hsl with ⟨rfl, rfl, h0, rfl⟩ | ⟨g, rfl, hcj, rfl⟩ | ⟨g, rfl, hcj, rfl⟩
  · have hj0 : j = 0 := by omega
    subst hj0
    rw [h0] at d2 k2 HF HR hji
    clear hc hjl h0
    go_upto_region 4 with fail
    go_region_law (first | (refine step_append_run (by rfl) (.tmp 18) (.tmp 29) 40 (by rfl) _ _ _ _ (by rfl) (by rfl) HR.out ?_))
    all_goals (go_wp2; go_ret; refine ⟨rfl, .slice ao' (0 - 0) c', ?_⟩; rw [← HJ.out]; exact HF.out)
  · clear hjl
    subst hcj
    have hz : l.length - c = 0 := by omega
    rw [hz] at HF HR
    clear hz
    go_upto_region 4 with fail
    go_region_law (first | (refine step_append_run (by rfl) (.tmp 18) (.tmp 29) 40 (by rfl) _ _ _ _ (by rfl) (by rfl) HR.out ?_))
    all_goals (go_wp2; go_ret; refine ⟨rfl, .slice ao' 0 c', ?_⟩; rw [← HJ.out]; exact HF.out)
  · clear hjl
    go_upto_region 4 with fail
    go_region_law (first | (refine step_append_run (by rfl) (.tmp 18) (.tmp 29) 40 (by rfl) _ _ _ _ (by rfl) (by rfl) HR.out ?_))
    all_goals (go_wp2; go_ret; refine ⟨rfl, .slice ao' (l.length - j) c', ?_⟩; rw [← HJ.out]; exact HF.out)
end Go.Proofs.Ythjoppgomopkfaa

import Derived.Test.YtagdpfghooogfaaClone
namespace Go.Proofs.Ytagdpfghooogfaa
open Go.RowKit
set_option linter.unusedVariables false

abbrev rowV (n a c k : Int) (s : Value) : Value := .agg #[.int .i64 n, .int .i64 a, .int .i64 c, .int .i64 k, s]

/-- May a row be? -/
def may (n a c k : Int) (l : List ByteArray) : Bool := decide (1 ≤ n ∧ n ≤ 1099511627776 ∧ 1 ≤ a ∧ a ≤ 1099511627776 ∧ chkX c k l = 0)

theorem isClient_any {w : World} (c : Int) : Calls Try.prog 27 #[.int .i64 c] w fun e w' => e = .returned (.bool (decide (0 ≤ c ∧ c < 8))) ∧ w' = w := by
  by_cases h0 : 0 ≤ c
  · have e0 : decide (0 ≤ c) = true := by simpa using h0
    have e : decide (0 ≤ c ∧ c < 8) = decide (c < 8) := by rw [Bool.eq_iff_iff]; simp [h0]
    rw [e]
    clear e
    go_enter Try.func27, Try.ntmps27
    go_wp2
    go_ret
    exact ⟨rfl, rfl⟩
  · have e0 : decide (0 ≤ c) = false := by simpa using h0
    have e : decide (0 ≤ c ∧ c < 8) = false := by simp [h0]
    rw [e]
    clear e
    go_enter Try.func27, Try.ntmps27
    go_wp2
    go_ret
    exact ⟨rfl, rfl⟩

theorem rises_any {w : World} (n a c k n' a' c' k' : Int) (s s' : Value) : Calls Try.prog 30 #[rowV n a c k s, rowV n' a' c' k' s'] w fun e w' => e = .returned (.bool (decide (n < n' ∧ a < a'))) ∧ Below w.heap.size w w' := by
  by_cases h0 : n < n'
  · have e0 : decide (n < n') = true := by simpa using h0
    have e : decide (n < n' ∧ a < a') = decide (a < a') := by rw [Bool.eq_iff_iff]; simp [h0]
    rw [e]
    clear e
    go_enter Try.func30, Try.ntmps30
    go_wp2
    go_ret
    exact ⟨rfl, (ba _ _).trans ((ba _ _).mono (by simp))⟩
  · have e0 : decide (n < n') = false := by simpa using h0
    have e : decide (n < n' ∧ a < a') = false := by simp [h0]
    rw [e]
    clear e
    go_enter Try.func30, Try.ntmps30
    go_wp2
    go_ret
    exact ⟨rfl, (ba _ _).trans ((ba _ _).mono (by simp))⟩

theorem mayBe_any {w : World} (n a c k : Int) {s : Value} {l : List ByteArray} (h : Txts w s l) (hl : l.length ≤ 9223372036854775807) : Calls Try.prog 28 #[rowV n a c k s] w fun e w' => e = .returned (.bool (may n a c k l)) ∧ Below w.heap.size w w' := by
  obtain ⟨ao, cp, rfl⟩ := h.form
  have HT := hid h
  clear h
  by_cases h0 : 1 ≤ n
  · have e0 : decide (1 ≤ n) = true := by simpa using h0
    by_cases h1 : n ≤ 1099511627776
    · have e1 : decide (n ≤ 1099511627776) = true := by simpa using h1
      by_cases h2 : 1 ≤ a
      · have e2 : decide (1 ≤ a) = true := by simpa using h2
        by_cases h3 : a ≤ 1099511627776
        · have e3 : decide (a ≤ 1099511627776) = true := by simpa using h3
          have F : Hid (may n a c k l = (chkX c k l == 0)) := by show _ = _; unfold may; rw [Bool.eq_iff_iff]; simp [h0, h1, h2, h3]
          go_enter Try.func28, Try.ntmps28
          go_wp2_with fail
          refine (checkX_any c k (HT.out.alloc _) hl).mono ?_
          rintro e w1 ⟨rfl, B⟩
          have B := hid ((ba _ _).trans (B.mono (by simp)))
          generalize chkX c k l = ck at F ⊢
          go_wp2
          go_ret
          exact ⟨by rw [F.out]; rfl, B.out⟩
        · have e3 : decide (a ≤ 1099511627776) = false := by simpa using h3
          have F : Hid (may n a c k l = false) := by show _ = _; simp [may, h3]
          go_enter Try.func28, Try.ntmps28
          go_wp2
          go_ret
          exact ⟨by rw [F.out]; rfl, by first | exact Below.refl _ _ | exact ba _ _⟩
      · have e2 : decide (1 ≤ a) = false := by simpa using h2
        have F : Hid (may n a c k l = false) := by show _ = _; simp [may, h2]
        go_enter Try.func28, Try.ntmps28
        go_wp2
        go_ret
        exact ⟨by rw [F.out]; rfl, by first | exact Below.refl _ _ | exact ba _ _⟩
    · have e1 : decide (n ≤ 1099511627776) = false := by simpa using h1
      have F : Hid (may n a c k l = false) := by show _ = _; simp [may, h1]
      go_enter Try.func28, Try.ntmps28
      go_wp2
      go_ret
      exact ⟨by rw [F.out]; rfl, by first | exact Below.refl _ _ | exact ba _ _⟩
  · have e0 : decide (1 ≤ n) = false := by simpa using h0
    have F : Hid (may n a c k l = false) := by show _ = _; simp [may, h0]
    go_enter Try.func28, Try.ntmps28
    go_wp2
    go_ret
    exact ⟨by rw [F.out]; rfl, by first | exact Below.refl _ _ | exact ba _ _⟩

theorem All.rev3 {a b c : Comp} {cs : List Comp} {w : World} (h : All (a :: b :: c :: cs) w) : All (c :: b :: a :: cs) w :=
  h.perm ((List.Perm.swap _ _ _).trans ((List.Perm.cons _ (List.Perm.swap _ _ _)).trans (List.Perm.swap _ _ _)))

theorem res31 {tmps : Array Value} {w : World} {b : Nat} {n a c k : Int} {s : Value} (ht : tmps.getD 2 undef = .pointer (some ⟨b, 0, none⟩)) (h : w.heap[b]? = some (.cells #[.int .i64 n, .int .i64 a, .int .i64 c, .int .i64 k, s] 39 (0, 0))) : (results Try.f31 tmps).run Try.prog w = .ok (rowV n a c k s) w := by
  have hp' : tmps[2]?.getD undef = .pointer (some ⟨b, 0, none⟩) := by simpa using ht
  have hres : Try.f31.results = #[.cell 2 39] := rfl
  have x0 : w.cell? ⟨b, 0, none⟩ = some (.int .i64 n) := by rw [cell_at h]; rfl
  have x1 : w.cell? ⟨b, 1, none⟩ = some (.int .i64 a) := by rw [cell_at h]; rfl
  have x2 : w.cell? ⟨b, 2, none⟩ = some (.int .i64 c) := by rw [cell_at h]; rfl
  have x3 : w.cell? ⟨b, 3, none⟩ = some (.int .i64 k) := by rw [cell_at h]; rfl
  have x4 : w.cell? ⟨b, 4, none⟩ = some s := by rw [cell_at h]; rfl
  simp only [results, hres]
  go_simp

theorem copied_any {cs : List Comp} {w : World} (hA : All cs w) (n a c k : Int) {s : Value} {l : List ByteArray} (h : Txts w s l) (hl : l.length ≤ 1000) : Calls Try.prog 31 #[rowV n a c k s] w fun e w' => ∃ ao c', e = .returned (rowV n a c k (.slice ao l.length c')) ∧ All (ownC 9 (.slice ao l.length c') (cellsT l) :: cs) w' ∧ Below w.heap.size w w' := by
  obtain ⟨ao, cp, rfl⟩ := h.form
  have HT := hid h
  have HA := hid ((hA.addBlk [.int .i64 n, .int .i64 a, .int .i64 c, .int .i64 k, .slice ao l.length cp] 39).addBlk [.int .i64 0, .int .i64 0, .int .i64 0, .int .i64 0, .slice none 0 0] 39)
  clear h hA
  go_enter Try.func31, Try.ntmps31
  go_wp2_with fail
  refine (tclone_any ((HT.out.alloc _).alloc _) hl).mono ?_
  rintro e w1 ⟨s', rfl, O1, B1⟩
  have HA1 := hid (HA.out.addOwn B1 (by rw [cellsT_length]; exact O1))
  have HB := hid B1
  clear HA
  have ex : w1.heap[w.heap.size]? = some (.cells #[.int .i64 n, .int .i64 a, .int .i64 c, .int .i64 k, .slice ao l.length cp] 39 (0, 0)) := (B1.block _ (by simp; omega)).trans ((Below.heap_alloc _ _ _ (by simp)).trans (heap_alloc_new w _))
  have er : w1.heap[w.heap.size + 1]? = some (.cells #[.int .i64 0, .int .i64 0, .int .i64 0, .int .i64 0, .slice none 0 0] 39 (0, 0)) := (B1.block _ (by simp)).trans (by have := heap_alloc_new (w.alloc (.cells #[.int .i64 n, .int .i64 a, .int .i64 c, .int .i64 k, .slice ao l.length cp] 39)) (.cells #[.int .i64 0, .int .i64 0, .int .i64 0, .int .i64 0, .slice none 0 0] 39); simpa using this)
  have x0 : w1.cell? ⟨w.heap.size, 0, none⟩ = some (.int .i64 n) := by rw [cell_at ex]; rfl
  have x1 : w1.cell? ⟨w.heap.size, 1, none⟩ = some (.int .i64 a) := by rw [cell_at ex]; rfl
  have x2 : w1.cell? ⟨w.heap.size, 2, none⟩ = some (.int .i64 c) := by rw [cell_at ex]; rfl
  have x3 : w1.cell? ⟨w.heap.size, 3, none⟩ = some (.int .i64 k) := by rw [cell_at ex]; rfl
  have x4 : w1.cell? ⟨w.heap.size, 4, none⟩ = some (.slice ao l.length cp) := by rw [cell_at ex]; rfl
  have fx := free_at ex 4
  have r0 : w1.cell? ⟨w.heap.size + 1, 0, none⟩ = some (.int .i64 0) := by rw [cell_at er]; rfl
  have r1 : w1.cell? ⟨w.heap.size + 1, 1, none⟩ = some (.int .i64 0) := by rw [cell_at er]; rfl
  have r2 : w1.cell? ⟨w.heap.size + 1, 2, none⟩ = some (.int .i64 0) := by rw [cell_at er]; rfl
  have r3 : w1.cell? ⟨w.heap.size + 1, 3, none⟩ = some (.int .i64 0) := by rw [cell_at er]; rfl
  have r4 : w1.cell? ⟨w.heap.size + 1, 4, none⟩ = some (.slice none 0 0) := by rw [cell_at er]; rfl
  have fr0 := free_at er 0
  have fr1 := free_at er 1
  have fr2 := free_at er 2
  have fr3 := free_at er 3
  have fr4 := free_at er 4
  have EX := hid ex
  have ER := hid er
  obtain ⟨so, sc, rfl⟩ := owns_form O1
  clear O1 B1 ex er
  go_wp2
  have A2 := ((((((HA1.out.rev3.setBlk 4 (.slice so l.length sc)).swap.setBlk 0 (.int .i64 n)).setBlk 1 (.int .i64 a)).setBlk 2 (.int .i64 c)).setBlk 3 (.int .i64 k)).setBlk 4 (.slice so l.length sc))
  simp only [World.size_alloc] at A2
  refine bodyPost_ret (v := rowV n a c k (.slice so l.length sc)) (res31 (b := w.heap.size + 1) rfl A2.1.2.1) rfl ?_
  refine ⟨so, sc, rfl, A2.tail.tail, ?_⟩
  have B0 : Below w.heap.size w w1 := ((ba _ _).trans ((ba _ _).mono (by simp))).trans (HB.out.mono (by simp; omega))
  exact (((((B0.setCell (by simp) _).setCell (by simp) _).setCell (by simp) _).setCell (by simp) _).setCell (by simp) _).setCell (by simp) _

end Go.Proofs.Ytagdpfghooogfaa

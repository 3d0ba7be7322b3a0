import Derived.Test.YtmpbdncgilahkaaRf
namespace Go.Proofs.Ytmpbdncgilahkaa
open Go.RowKit
set_option linter.unusedVariables false

theorem RNew_bad {w : World} {n : Int} (h : n < 1 ∨ 7 < n) : Calls Try.prog 39 #[.int .i64 n] w fun e w' => e = .returned (.tuple #[.pointer none, .int .i64 40]) ∧ w' = w := by
  by_cases h1 : n < 1
  · clear h
    go_enter Try.func39, Try.ntmps39
    go_wp2
    go_ret2
    exact ⟨rfl, rfl⟩
  · have h2 : 7 < n := by omega
    clear h
    go_enter Try.func39, Try.ntmps39
    go_wp2
    go_ret2
    exact ⟨rfl, rfl⟩

theorem mkI (n : Nat) (hn : n ≤ 7) (w : World) : Sem.run Try.prog (Instr.makeSlice 28 (.int .i64 n) (.int .i64 n)) w = .ok (.slice (some ⟨w.heap.size, 0, none⟩) n n) (w.alloc (.cells (Array.replicate n (.int .i64 0)) 3)) := by
  have := make_ints (w := w) n (by omega)
  rw [this, List.toArray_replicate]
theorem mkB (n : Nat) (hn : n ≤ 7) (w : World) : Sem.run Try.prog (Instr.makeSlice 34 (.int .i64 n) (.int .i64 n)) w = .ok (.slice (some ⟨w.heap.size, 0, none⟩) n n) (w.alloc (.cells (Array.replicate n (.bool false)) 4)) := by
  have := make_bools (w := w) n hn
  rw [this, bools, List.map_replicate, List.toArray_replicate]

theorem rowI {w : World} {g n : Nat} (h : w.heap[g]? = some (.cells (Array.replicate n (.int .i64 0)) 3 (0, 0))) : RowX w g 3 (ints (List.replicate n 0)) := ⟨_, h, by simp [ints]⟩
theorem rowB {w : World} {g n : Nat} (h : w.heap[g]? = some (.cells (Array.replicate n (.bool false)) 4 (0, 0))) : RowX w g 4 (bools (List.replicate n false)) := ⟨_, h, by simp [bools]⟩

theorem newRf {w : World} {n s p cs cp : Nat} (h1 : 1 ≤ n) (h7 : n ≤ 7) (hs : w.heap[s]? = some (.cells (Array.replicate n (.int .i64 0)) 3 (0, 0))) (hp : w.heap[p]? = some (.cells (Array.replicate n (.bool false)) 4 (0, 0))) (hsp : s ≠ p) :
    Rf (w.alloc (.cells #[.slice (some ⟨s, 0, none⟩) n cs, .slice (some ⟨p, 0, none⟩) n cp] 80)) ⟨w.heap.size, s, p, cs, cp, n, List.replicate n 0, List.replicate n false⟩ where
  blk := heap_alloc_new _ _
  ints := rowI ((Below.heap_alloc w _ s (Array.getElem?_eq_some_iff.1 hs).1).trans hs)
  bools := rowB ((Below.heap_alloc w _ p (Array.getElem?_eq_some_iff.1 hp).1).trans hp)
  lsaid := by simp
  lspoke := by simp
  one := h1
  seven := h7
  rs := by have := (Array.getElem?_eq_some_iff.1 hs).1; simp only; omega
  rp := by have := (Array.getElem?_eq_some_iff.1 hp).1; simp only; omega
  sp := hsp

set_option maxRecDepth 1000000 in
theorem RNew_ok {w : World} {n : Nat} (h1 : 1 ≤ n) (h7 : n ≤ 7) : Calls Try.prog 39 #[.int .i64 n] w fun e w' => ∃ t : Rfs, e = .returned (.tuple #[.pointer (some ⟨t.r, 0, none⟩), .int .i64 0]) ∧ Below w.heap.size w w' ∧ Rf w' t ∧ t.n = n ∧ t.said = List.replicate n 0 ∧ t.spoke = List.replicate n false ∧ w.heap.size ≤ t.r ∧ w.heap.size ≤ t.s ∧ w.heap.size ≤ t.p := by
  have m1 := mkI n h7
  have m2 := mkB n h7
  have h1' : ¬ (n : Int) < 1 := by omega
  have h2' : ¬ (7 : Int) < n := by omega
  have H1 := hid h1
  have H7 := hid h7
  clear h1 h7
  go_enter Try.func39, Try.ntmps39
  go_wp2
  go_region
  · go_wp2
    go_ret2
    have hw1 := heap_alloc_new w (.cells (Array.replicate n (.int .i64 0)) 3)
    have hs := (Below.heap_alloc (w.alloc (.cells (Array.replicate n (.int .i64 0)) 3)) (.cells (Array.replicate n (.bool false)) 4) w.heap.size (by simp)).trans hw1
    have hp := heap_alloc_new (w.alloc (.cells (Array.replicate n (.int .i64 0)) 3)) (.cells (Array.replicate n (.bool false)) 4)
    rw [World.size_alloc] at hp
    have R := newRf (cs := n) (cp := n) H1.out H7.out hs hp (by omega)
    simp only [World.size_alloc] at R
    exact ⟨_, rfl, ((((Below.refl _ w).alloc (Nat.le_refl _) _).alloc (by simp) _).alloc (by simp; omega) _).drew, R.drew, rfl, rfl, rfl, by simp only; omega, Nat.le_refl _, by simp only; omega⟩
  · go_wp2
    go_ret2
    have hw1 := heap_alloc_new w (.cells (Array.replicate n (.bool false)) 4)
    have hp := (Below.heap_alloc (w.alloc (.cells (Array.replicate n (.bool false)) 4)) (.cells (Array.replicate n (.int .i64 0)) 3) w.heap.size (by simp)).trans hw1
    have hs := heap_alloc_new (w.alloc (.cells (Array.replicate n (.bool false)) 4)) (.cells (Array.replicate n (.int .i64 0)) 3)
    rw [World.size_alloc] at hs
    have R := newRf (cs := n) (cp := n) H1.out H7.out hs hp (by omega)
    simp only [World.size_alloc] at R
    exact ⟨_, rfl, ((((Below.refl _ w).alloc (Nat.le_refl _) _).alloc (by simp) _).alloc (by simp; omega) _).drew, R.drew, rfl, rfl, rfl, by simp only; omega, by simp only; omega, Nat.le_refl _⟩
end Go.Proofs.Ytmpbdncgilahkaa

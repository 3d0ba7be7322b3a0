import Derived.Test.YtphcfkfdkaphbaaFlo
namespace Go.Proofs.Ytphcfkfdkaphbaa
open Go.RowKit
set_option linter.unusedVariables false

/-- A table of floats: its block, the map's entries. -/
structure TF (w0 : World) (P b : Nat) (es : Array MapEntry) (c : Nat) (w : World) : Prop where
  box : w.heap[P]? = some (.cells #[.map (some b)] 114 (0, 0))
  map : w.heap[b]? = some (.map es c)
  newP : w0.heap.size ≤ P
  newb : w0.heap.size ≤ b
  bel : Below w0.heap.size w0 w

theorem TF.ne {w0 : World} {P b : Nat} {es : Array MapEntry} {c : Nat} {w : World} (h : TF w0 P b es c w) : P ≠ b := fun e => by
  have := h.box
  rw [e, h.map] at this
  cases this

theorem TF.set {w0 : World} {P b : Nat} {es : Array MapEntry} {c : Nat} {w : World} (h : TF w0 P b es c w) (es' : Array MapEntry) (c' : Nat) : TF w0 P b es' c' { w with heap := w.heap.setIfInBounds b (.map es' c') } := by
  have hl : b < w.heap.size := (Array.getElem?_eq_some_iff.1 h.map).1
  have hn := h.ne
  refine ⟨?_, ?_, h.newP, h.newb, ⟨h.bel.os, h.bel.tape, h.bel.output, by simpa using h.bel.size, fun k hk => ?_⟩⟩
  · show (w.heap.setIfInBounds b _)[P]? = _
    rw [Array.getElem?_setIfInBounds_ne (by omega)]; exact h.box
  · show (w.heap.setIfInBounds b _)[b]? = _
    simp [hl]
  · show (w.heap.setIfInBounds b _)[k]? = _
    have := h.newb
    rw [Array.getElem?_setIfInBounds_ne (by omega)]; exact h.bel.block k hk

theorem TF.cell {w0 : World} {P b : Nat} {es : Array MapEntry} {c : Nat} {w : World} (h : TF w0 P b es c w) : w.cell? ⟨P, 0, none⟩ = some (.map (some b)) := by rw [cell_at h.box]; rfl

set_option maxRecDepth 1000000 in
theorem NewF {w : World} : Calls Try.prog 25 #[] w fun e w' => ∃ P b, e = .returned (.pointer (some ⟨P, 0, none⟩)) ∧ TF w P b #[] 0 w' := by
  have hmm := @run_makeMap Try.prog
  have H := hid (show TF w (w.heap.size + 1) w.heap.size #[] 0 ((w.alloc (.map #[] 0)).alloc (.cells #[.map (some w.heap.size)] 114)) from by
    refine ⟨?_, ?_, by omega, Nat.le_refl _, ((Below.refl _ _).alloc (Nat.le_refl _) _).alloc (by simp) _⟩
    · have := heap_alloc_new (w.alloc (.map #[] 0)) (.cells #[.map (some w.heap.size)] 114)
      simpa using this
    · exact (heap_alloc_old _ _ (by simp)).trans (heap_alloc_new w (.map #[] 0)))
  go_enter Try.func25, Try.ntmps25
  go_wp2
  go_ret
  exact ⟨_, _, rfl, H.out⟩

theorem look_runs {w0 : World} {P b : Nat} {es : Array MapEntry} {c : Nat} {w : World} {n : Nat} {v : Value} {q : Bool} (h : TF w0 P b es c w) (hl : (Instr.lookup 112 (.map (some b)) (.float .f64 n) true).run Try.prog w = .ok (.tuple #[v, .bool q]) w) : Calls Try.prog 59 #[.pointer (some ⟨P, 0, none⟩), .float .f64 n] w fun e w' => e = .returned (.bool q) ∧ w' = w := by
  have c0 := h.cell
  clear h
  go_enter Try.func59, Try.ntmps59
  go_wp2
  go_ret
  exact ⟨rfl, rfl⟩

theorem look_left {w0 : World} {P b : Nat} {es : Array MapEntry} {c : Nat} {w : World} {n : Nat} {m : Int} {q : Bool} (h : TF w0 P b es c w) (hl : (Instr.lookup 112 (.map (some b)) (.float .f64 n) true).run Try.prog w = .ok (.tuple #[.int .i64 m, .bool q]) w) : Calls Try.prog 28 #[.pointer (some ⟨P, 0, none⟩), .float .f64 n] w fun e w' => e = .returned (.tuple #[.int .i64 m, .bool q]) ∧ w' = w := by
  have c0 := h.cell
  clear h
  go_enter Try.func28, Try.ntmps28
  go_wp2
  go_ret2
  exact ⟨rfl, rfl⟩

theorem ArmF_name {w : World} {pv : Value} {n : Nat} {m : Int} (he : feq n n = false) : Calls Try.prog 27 #[pv, .float .f64 n, .int .i64 m] w fun e w' => e = .returned (.int .i64 1) ∧ w' = w := by
  go_enter Try.func27, Try.ntmps27
  go_wp2_with fail
  refine (isNameF n).mono ?_
  rw [he]
  rintro e w1 ⟨rfl, rfl⟩
  go_wp2
  go_ret
  exact ⟨rfl, rfl⟩

theorem ArmF_ticks {w : World} {pv : Value} {n : Nat} {m : Int} (he : feq n n = true) (hm : m < 1 ∨ 1024 < m) : Calls Try.prog 27 #[pv, .float .f64 n, .int .i64 m] w fun e w' => e = .returned (.int .i64 30) ∧ w' = w := by
  go_enter Try.func27, Try.ntmps27
  go_wp2_with fail
  refine (isNameF n).mono ?_
  rw [he]
  rintro e w1 ⟨rfl, rfl⟩
  go_wp2_with fail
  refine (mayWait_no hm).mono ?_
  rintro e w1 ⟨rfl, rfl⟩
  go_wp2
  go_ret
  exact ⟨rfl, rfl⟩

theorem lenF0 {w : World} {b c : Nat} (hb : w.heap[b]? = some (.map #[] c)) (ty : TypeId) : (Builtin.len_ #[112] ty #[.map (some b)]).run Try.prog w = .ok (.int .i64 0) w := by
  simp [Builtin.len_, run_underlying Try.und112, MapKept.run_getObj_map hb, goInt, Result.andThen]

set_option maxRecDepth 1000000 in
theorem ArmF_ok {w0 : World} {P b : Nat} {w : World} {n : Nat} {m : Int} (h : TF w0 P b #[] 0 w) (he : feq n n = true) (h1 : 1 ≤ m) (h2 : m ≤ 1024) : Calls Try.prog 27 #[.pointer (some ⟨P, 0, none⟩), .float .f64 n, .int .i64 m] w fun e w' => e = .returned (.int .i64 0) ∧ TF w0 P b #[ent n m] 1 w' := by
  have c0 := h.cell
  have hb := h.map
  have hp := put0 hb n m
  have hlen := lenF0 hb 3
  have HR := hid (look_runs h (look0 hb n))
  have HT := hid (h.set #[ent n m] 1)
  generalize hw2 : ({ w with heap := w.heap.setIfInBounds b (.map #[ent n m] 1) } : World) = w2 at *
  clear h hw2
  go_enter Try.func27, Try.ntmps27
  go_wp2_with fail
  refine (isNameF n).mono ?_
  rw [he]
  rintro e w1 ⟨rfl, rfl⟩
  go_wp2_with fail
  refine (mayWait_yes h1 h2).mono ?_
  rintro e w1 ⟨rfl, rfl⟩
  go_wp2_with fail
  refine HR.out.mono ?_
  rintro e w1 ⟨rfl, rfl⟩
  go_wp2
  go_ret
  exact ⟨rfl, HT.out⟩

set_option maxRecDepth 1000000 in
theorem CancelF {w0 : World} {P b : Nat} {es : Array MapEntry} {c : Nat} {w : World} {n : Nat} {v : Value} {q : Bool} (h : TF w0 P b es c w) (hl : (Instr.lookup 112 (.map (some b)) (.float .f64 n) true).run Try.prog w = .ok (.tuple #[v, .bool q]) w) (hd : ∀ ty, (Builtin.delete_ #[112, 67] ty #[.map (some b), .float .f64 n]).run Try.prog w = .ok (.tuple #[]) { w with heap := w.heap.setIfInBounds b (.map #[] c) }) : Calls Try.prog 29 #[.pointer (some ⟨P, 0, none⟩), .float .f64 n] w fun e w' => e = .returned (.bool q) ∧ TF w0 P b #[] c w' := by
  have c0 := h.cell
  have HR := hid (look_runs h hl)
  have HT := hid (h.set #[] c)
  generalize hw2 : ({ w with heap := w.heap.setIfInBounds b (.map #[] c) } : World) = w2 at *
  clear h hw2 hl
  go_enter Try.func29, Try.ntmps29
  go_wp2_with fail
  refine HR.out.mono ?_
  rintro e w1 ⟨rfl, rfl⟩
  go_wp2
  go_ret
  exact ⟨rfl, HT.out⟩
end Go.Proofs.Ytphcfkfdkaphbaa

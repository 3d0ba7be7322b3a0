import Derived.Test.YthjoppgomopkfaaShelf
import Derived.Deep.MidRow
import Derived.Deep.RegionHeld3
import Derived.Deep.DeepCutAuto
import Derived.Deep.QuietTactic
import Derived.BigQuiet
namespace Go.Proofs.Ythjoppgomopkfaa
open Go.RowKit
set_option linter.unusedVariables false

/-- An entry. -/
structure Ent where
  c : Int
  n : Int
  k : Int
  nm : ByteArray
  tx : ByteArray
  m : Int
  q : Int
  deriving DecidableEq
def Ent.cells (e : Ent) : List Value := [.int .i64 e.c, .int .i64 e.n, .int .i64 e.k, .string e.nm, .string e.tx, .int .i64 e.m, .int .i64 e.q]
/-- The entry as a value. -/
abbrev Ent.V (e : Ent) : Value := .agg #[.int .i64 e.c, .int .i64 e.n, .int .i64 e.k, .string e.nm, .string e.tx, .int .i64 e.m, .int .i64 e.q]
/-- An entry's cells, one by one. -/
def entAt (w : World) (b o : Nat) (x : Ent) : Prop := w.cell? ⟨b, o, none⟩ = some (.int .i64 x.c) ∧ w.cell? ⟨b, o + 1, none⟩ = some (.int .i64 x.n) ∧ w.cell? ⟨b, o + 2, none⟩ = some (.int .i64 x.k) ∧ w.cell? ⟨b, o + 3, none⟩ = some (.string x.nm) ∧ w.cell? ⟨b, o + 4, none⟩ = some (.string x.tx) ∧ w.cell? ⟨b, o + 5, none⟩ = some (.int .i64 x.m) ∧ w.cell? ⟨b, o + 6, none⟩ = some (.int .i64 x.q)
def Ent.zero : Ent := ⟨0, 0, 0, ⟨#[]⟩, ⟨#[]⟩, 0, 0⟩
theorem Ent.len (e : Ent) : e.cells.length = 7 := rfl
theorem Ent.one (e : Ent) : ∀ u ∈ e.cells, u.oneCell' = true := by
  intro u hu
  simp only [Ent.cells, List.mem_cons, List.not_mem_nil, or_false] at hu
  rcases hu with rfl | rfl | rfl | rfl | rfl | rfl | rfl <;> rfl
theorem Ent.all (e : Ent) : e.cells.toArray.all (·.oneCell') = true := all_oneCell_toArray e.one
theorem Ent.inj {a b : Ent} (h : a.cells = b.cells) : a = b := by
  cases a; cases b
  simp [Ent.cells] at h
  simp [h]
def flatE (l : List Ent) : List Value := l.flatMap Ent.cells
theorem flatE_nil : flatE [] = [] := rfl
theorem flatE_snoc (l : List Ent) (e : Ent) : flatE (l ++ [e]) = flatE l ++ e.cells := by simp [flatE]
theorem flatE_append (l m : List Ent) : flatE (l ++ m) = flatE l ++ flatE m := by simp [flatE]
theorem flatE_len (l : List Ent) : (flatE l).length = l.length * 7 := by
  induction l with
  | nil => rfl
  | cons e l ih => simp only [flatE, List.flatMap_cons, List.length_append, List.length_cons] at ih ⊢; rw [ih, Ent.len]; omega
theorem flatE_one (l : List Ent) : ∀ u ∈ flatE l, u.oneCell' = true := by
  intro u hu
  obtain ⟨e, _, h⟩ := List.mem_flatMap.1 hu
  exact e.one u h
theorem flatE_at {l : List Ent} {i : Nat} {e : Ent} (h : l[i]? = some e) {j : Nat} (hj : j < 7) : (flatE l)[i * 7 + j]? = e.cells[j]? := by
  induction l generalizing i with
  | nil => simp at h
  | cons q l ih =>
    have hq : q.cells.length = 7 := rfl
    cases i with
    | zero =>
      have : q = e := by simpa using h
      subst this
      simp only [flatE, List.flatMap_cons, Nat.zero_mul, Nat.zero_add]
      rw [List.getElem?_append_left (by omega)]
    | succ i =>
      have := ih (i := i) (by simpa using h)
      simp only [flatE, List.flatMap_cons]
      rw [List.getElem?_append_right (by omega), ← this, flatE]
      congr 1
      omega
theorem flatE_drop (l : List Ent) (n : Nat) : (flatE l).drop (n * 7) = flatE (l.drop n) := by
  induction l generalizing n with
  | nil => simp [flatE]
  | cons e l ih =>
    cases n with
    | zero => simp
    | succ n =>
      have : (n + 1) * 7 = e.cells.length + n * 7 := by rw [e.len]; omega
      simp only [flatE, List.flatMap_cons, List.drop_succ_cons] at ih ⊢
      rw [this, List.drop_append, List.drop_eq_nil_of_le (by omega), Nat.add_sub_cancel_left]
      exact ih n
theorem flatE_take (l : List Ent) (n : Nat) : (flatE l).take (n * 7) = flatE (l.take n) := by
  induction l generalizing n with
  | nil => simp [flatE]
  | cons e l ih =>
    cases n with
    | zero => simp [flatE]
    | succ n =>
      have : (n + 1) * 7 = e.cells.length + n * 7 := by rw [e.len]; omega
      simp only [flatE, List.flatMap_cons, List.take_succ_cons] at ih ⊢
      rw [this, List.take_append, List.take_of_length_le (by omega), Nat.add_sub_cancel_left]
      rw [ih n]
theorem flatE_inj {l m : List Ent} (h : flatE l = flatE m) : l = m := by
  induction l generalizing m with
  | nil =>
    cases m with
    | nil => rfl
    | cons e m => have := congrArg List.length h; simp [flatE_len] at this
  | cons a l ih =>
    cases m with
    | nil => have := congrArg List.length h; simp [flatE_len] at this
    | cons b m =>
      simp only [flatE, List.flatMap_cons] at h
      obtain ⟨h1, h2⟩ := List.append_inj h (by rw [a.len, b.len])
      rw [Ent.inj h1, ih h2]

/-- Cells that are written one behind the other. -/
def setAll (vs : List Value) (o : Nat) : List Value → List Value
  | [] => vs
  | u :: us => setAll (vs.set o u) (o + 1) us
theorem setAll_pre (a : List Value) : ∀ (us vs : List Value) (o : Nat), setAll (a ++ vs) (a.length + o) us = a ++ setAll vs o us
  | [], vs, o => rfl
  | u :: us, vs, o => by
    simp only [setAll]
    rw [List.set_append_right _ _ (by omega), Nat.add_sub_cancel_left, Nat.add_assoc]
    exact setAll_pre a us (vs.set o u) (o + 1)
theorem setAll_head : ∀ (us old rest : List Value), us.length = old.length → setAll (old ++ rest) 0 us = us ++ rest
  | [], [], rest, _ => rfl
  | u :: us, v :: old, rest, h => by
    simp only [setAll, List.cons_append, List.set_cons_zero]
    have := setAll_pre [u] us (old ++ rest) 0
    simp only [List.cons_append, List.nil_append, List.length_cons, List.length_nil, Nat.zero_add, Nat.add_zero] at this
    rw [Nat.zero_add, this, setAll_head us old rest (by simpa using h)]
theorem flatE_set (l : List Ent) (i : Nat) (e : Ent) (hi : i < l.length) : setAll (flatE l) (i * 7) e.cells = flatE (l.set i e) := by
  induction l generalizing i with
  | nil => simp at hi
  | cons q l ih =>
    cases i with
    | zero =>
      simp only [flatE, List.flatMap_cons, Nat.zero_mul, List.set_cons_zero]
      exact setAll_head e.cells q.cells _ rfl
    | succ i =>
      have := ih i (by simpa using hi)
      simp only [flatE, List.flatMap_cons, List.set_cons_succ] at this ⊢
      have e7 : (i + 1) * 7 = q.cells.length + i * 7 := by rw [q.len]; omega
      rw [e7, setAll_pre, this]

theorem All.setBlks {g : Nat} {t : TypeId} {cs : List Comp} : ∀ (us vs : List Value) (w : World) (o : Nat), All (blkC g vs t :: cs) w → All (blkC g (setAll vs o us) t :: cs) (w.setCells g o us)
  | [], vs, w, o, h => h
  | u :: us, vs, w, o, h => by
    rw [World.setCells]
    exact All.setBlks us (vs.set o u) _ (o + 1) (h.setBlk o u)

theorem Try.info39 : (Try.prog.info? 39).map (fun i => (i.zero, i.size, i.bytes)) = some (some (.agg Ent.zero.cells.toArray), 7, 72) := by kernel_rfl
theorem size39 : (Try.prog.info? 39).map (·.size) = some 7 := by kernel_rfl
theorem size65 : (Try.prog.info? 65).map (·.size) = some 3 := by kernel_rfl
theorem size62 : (Try.prog.info? 62).map (·.size) = some 1 := by kernel_rfl
theorem under39 : ∃ d, Try.prog.underlying 39 = some d ∧ d.isRow = true := ⟨_, Try.underlying39, rfl⟩

theorem entAt_of {w : World} {b o : Nat} {x : Ent} (h : w.rangeAt b o x.cells) : entAt w b o x :=
  ⟨h 0 _ rfl, h 1 _ rfl, h 2 _ rfl, h 3 _ rfl, h 4 _ rfl, h 5 _ rfl, h 6 _ rfl⟩
theorem set7 (w : World) (b o : Nat) (x : Ent) : w.setCells b o x.cells = ((((((w.setCell ⟨b, o, none⟩ (.int .i64 x.c)).setCell ⟨b, o + 1, none⟩ (.int .i64 x.n)).setCell ⟨b, o + 2, none⟩ (.int .i64 x.k)).setCell ⟨b, o + 3, none⟩ (.string x.nm)).setCell ⟨b, o + 4, none⟩ (.string x.tx)).setCell ⟨b, o + 5, none⟩ (.int .i64 x.m)).setCell ⟨b, o + 6, none⟩ (.int .i64 x.q) := rfl
/-- An entry in a block. -/
theorem ent_at {w : World} {b o : Nat} {e : Ent} (h : w.rangeAt b o e.cells) : (loadVar 39 ⟨b, o, none⟩).run Try.prog w = .ok (.agg e.cells.toArray) w :=
  run_loadVar_mid w b o 39 e.cells _ h Try.underlying39 rfl size39
theorem range_of {w : World} {b : Nat} {l : List Ent} {t : TypeId} (h : w.heap[b]? = some (.cells (flatE l).toArray t (0, 0))) {i : Nat} {e : Ent} (he : l[i]? = some e) : w.rangeAt b (i * 7) e.cells := by
  intro j v hv
  have hj : j < 7 := by have := (List.getElem?_eq_some_iff.1 hv).1; rwa [e.len] at this
  rw [cell_at h, List.getElem?_toArray, flatE_at he hj]
  exact hv
theorem range_one {w : World} {b : Nat} {e : Ent} {t : TypeId} (h : w.heap[b]? = some (.cells e.cells.toArray t (0, 0))) : w.rangeAt b 0 e.cells := by
  intro j v hv
  rw [cell_at h, List.getElem?_toArray, Nat.zero_add]
  exact hv
theorem there_of {w : World} {b : Nat} {l : List Value} {t : TypeId} (h : w.heap[b]? = some (.cells l.toArray t (0, 0))) {o n : Nat} (hn : o + n ≤ l.length) : w.there b o n := by
  intro j hj
  refine ⟨?_, free_at h _⟩
  rw [cell_at h, List.getElem?_toArray, List.getElem?_eq_getElem (by omega)]
  rfl
end Go.Proofs.Ythjoppgomopkfaa

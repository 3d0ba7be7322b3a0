import Derived.Test.YtmpbdncgilahkaaStep3
namespace Go.Proofs.Ytmpbdncgilahkaa
open Go.RowKit
set_option linter.unusedVariables false

def cellsT : Option Tg → List Value
  | none => [.pointer none, .pointer none, .pointer none]
  | some t => [.pointer (some ⟨t.a, 0, none⟩), .pointer (some ⟨t.b, 0, none⟩), .pointer (some ⟨t.f.r, 0, none⟩)]
theorem cellsT_len (x : Option Tg) : (cellsT x).length = 3 := by cases x <;> rfl
def flat3 (ts : List (Option Tg)) : List Value := ts.flatMap cellsT
theorem flat3_get : ∀ (ts : List (Option Tg)) (k j : Nat) (x : Option Tg), ts[k]? = some x → j < 3 → (flat3 ts)[k * 3 + j]? = (cellsT x)[j]?
  | [], k, j, x, h, _ => by simp at h
  | a :: ts, 0, j, x, h, hj => by
    obtain rfl : a = x := by simpa using h
    rw [show flat3 (a :: ts) = cellsT a ++ flat3 ts from rfl, Nat.zero_mul, Nat.zero_add, List.getElem?_append_left (by rw [cellsT_len]; exact hj)]
  | a :: ts, k + 1, j, x, h, hj => by
    have ih := flat3_get ts k j x (by simpa using h) hj
    rw [show flat3 (a :: ts) = cellsT a ++ flat3 ts from rfl, List.getElem?_append_right (by rw [cellsT_len]; omega), cellsT_len, show (k + 1) * 3 + j - 3 = k * 3 + j by omega]
    exact ih
theorem flat3_set : ∀ (ts : List (Option Tg)) (k : Nat) (x : Option Tg) (v0 v1 v2 : Value), cellsT x = [v0, v1, v2] → k < ts.length → (((flat3 ts).set (k * 3) v0).set (k * 3 + 1) v1).set (k * 3 + 2) v2 = flat3 (ts.set k x)
  | [], k, x, _, _, _, _, h => by simp at h
  | a :: ts, 0, x, v0, v1, v2, hx, _ => by
    have : flat3 ((a :: ts).set 0 x) = cellsT x ++ flat3 ts := rfl
    rw [this, hx, show flat3 (a :: ts) = cellsT a ++ flat3 ts from rfl]
    cases a <;> rfl
  | a :: ts, k + 1, x, v0, v1, v2, hx, h => by
    have ih := flat3_set ts k x v0 v1 v2 hx (by simpa using h)
    have e : flat3 ((a :: ts).set (k + 1) x) = cellsT a ++ flat3 (ts.set k x) := rfl
    rw [e, ← ih, show flat3 (a :: ts) = cellsT a ++ flat3 ts from rfl]
    have hs : ∀ (l : List Value) (i : Nat) (v : Value), (cellsT a ++ l).set (3 + i) v = cellsT a ++ l.set i v := fun l i v => by
      rw [List.set_append, if_neg (by rw [cellsT_len]; omega), cellsT_len, Nat.add_sub_cancel_left]
    rw [show (k + 1) * 3 = 3 + k * 3 by omega, hs, show 3 + k * 3 + 1 = 3 + (k * 3 + 1) by omega, hs, show 3 + k * 3 + 2 = 3 + (k * 3 + 2) by omega, hs]

/-- Three things, or none, in an array. -/
structure MS (w0 : World) (L : Nat) (ts : List (Option Tg)) (W : World) : Prop where
  arr : W.heap[L]? = some (.cells (flat3 ts).toArray 43 (0, 0))
  len : ts.length = 3
  each : ∀ (i : Nat) (t : Tg), ts[i]? = some (some t) → Th W t ∧ ∀ k ∈ blk5 t.a t.b t.f, w0.heap.size ≤ k ∧ k ≠ L
  disj : ∀ (i j : Nat) (t u : Tg), i ≠ j → ts[i]? = some (some t) → ts[j]? = some (some u) → ∀ k ∈ blk5 t.a t.b t.f, k ∉ blk5 u.a u.b u.f
  be : Below w0.heap.size w0 W
  hL : w0.heap.size ≤ L

section
variable {w0 W W' : World} {L : Nat} {ts : List (Option Tg)}
theorem MS.lt (h : MS w0 L ts W) : L < W.heap.size := (Array.getElem?_eq_some_iff.1 h.arr).1
theorem MS.cell (h : MS w0 L ts W) {k j : Nat} {x : Option Tg} {v : Value} (hk : ts[k]? = some x) (hj : j < 3) (hv : (cellsT x)[j]? = some v) : W.cell? ⟨L, k * 3 + j, none⟩ = some v := by
  rw [cell_at h.arr, List.getElem?_toArray, flat3_get ts k j x hk hj, hv]
theorem MS.free (h : MS w0 L ts W) (j : Nat) : W.frozen? ⟨L, j, none⟩ = false := free_at h.arr j
theorem MS.later (h : MS w0 L ts W) (hb : Below W.heap.size W W') : MS w0 L ts W' :=
  ⟨(hb.block L h.lt).trans h.arr, h.len, fun i t hi => ⟨(h.each i t hi).1.later hb, (h.each i t hi).2⟩, h.disj, h.be.trans (hb.mono h.be.size), h.hL⟩
theorem MS.drewN (h : MS w0 L ts W) (q : Nat) : MS w0 L ts (W.drewN q) :=
  ⟨h.arr, h.len, fun i t hi => ⟨(h.each i t hi).1.drewN q, (h.each i t hi).2⟩, h.disj, ⟨h.be.os, h.be.tape, h.be.output, h.be.size, h.be.block⟩, h.hL⟩
/-- One thing has turned. -/
theorem MS.turn (h : MS w0 L ts W) {i : Nat} {t : Tg} {f : Rfs} (hi : ts[i]? = some (some t)) (hT : Th W' { t with f := f }) (e1 : f.r = t.f.r) (e2 : f.s = t.f.s) (e3 : f.p = t.f.p) (hf : Fr (blk5 t.a t.b t.f) W W') : MS w0 L (ts.set i (some { t with f := f })) W' := by
  have hil := (List.getElem?_eq_some_iff.1 hi).1
  have hb : blk5 t.a t.b f = blk5 t.a t.b t.f := by simp [e1, e2, e3]
  have hc : cellsT (some { t with f := f }) = cellsT (some t) := by simp [cellsT, e1]
  have hfl : flat3 (ts.set i (some { t with f := f })) = flat3 ts := by
    have a1 := flat3_set ts i (some { t with f := f }) _ _ _ (by rw [hc]; rfl) hil
    have a2 := flat3_set ts i (some t) _ _ _ rfl hil
    rw [← a1, a2]
    obtain ⟨_, he⟩ := List.getElem?_eq_some_iff.1 hi
    rw [← he, List.set_getElem_self]
  refine ⟨?_, by simpa using h.len, ?_, ?_, ?_, h.hL⟩
  · rw [hfl]
    exact (hf.block L h.lt (fun e => ((h.each i t hi).2 L e).2 rfl)).trans h.arr
  · intro j u hj
    by_cases hji : j = i
    · subst hji
      rw [List.getElem?_set_self hil] at hj
      simp only [Option.some.injEq] at hj
      subst hj
      refine ⟨hT, fun k hk => (h.each j t hi).2 k ?_⟩
      have : k ∈ blk5 t.a t.b f := hk
      rw [hb] at this
      exact this
    · rw [List.getElem?_set_ne (Ne.symm hji)] at hj
      refine ⟨(h.each j u hj).1.keep (fun k hk => hf.block k ((h.each j u hj).1.lt k hk) (h.disj j i u t hji hj hi k hk)), (h.each j u hj).2⟩
  · intro j k u v hjk hj hk
    have key : ∀ (m : Nat) (x : Tg), (ts.set i (some { t with f := f }))[m]? = some (some x) → ∃ x' : Tg, ts[m]? = some (some x') ∧ blk5 x.a x.b x.f = blk5 x'.a x'.b x'.f := by
      intro m x hm
      by_cases hmi : m = i
      · subst hmi
        rw [List.getElem?_set_self hil] at hm
        simp only [Option.some.injEq] at hm
        subst hm
        exact ⟨t, hi, hb⟩
      · rw [List.getElem?_set_ne (Ne.symm hmi)] at hm
        exact ⟨x, hm, rfl⟩
    obtain ⟨u', hu', eu⟩ := key j u hj
    obtain ⟨v', hv', ev⟩ := key k v hk
    rw [eu, ev]
    exact h.disj j k u' v' hjk hu' hv'
  · refine ⟨hf.os.trans h.be.os, hf.tape.trans h.be.tape, hf.output.trans h.be.output, Nat.le_trans h.be.size hf.size, fun k hk => (hf.block k (Nat.lt_of_lt_of_le hk h.be.size) (fun e => ?_)).trans (h.be.block k hk)⟩
    have := ((h.each i t hi).2 k e).1
    omega
/-- A thing is laid down in a place. -/
theorem MS.put (h : MS w0 L ts W) {i : Nat} {x : Option Tg} {v0 v1 v2 : Value} (hx : cellsT x = [v0, v1, v2]) (hi : i < 3) (hnew : ∀ t, x = some t → Th W t ∧ ∀ k ∈ blk5 t.a t.b t.f, w0.heap.size ≤ k ∧ k ≠ L ∧ ∀ (j : Nat) (u : Tg), ts[j]? = some (some u) → k ∉ blk5 u.a u.b u.f) :
    MS w0 L (ts.set i x) (((W.setCell ⟨L, i * 3, none⟩ v0).setCell ⟨L, i * 3 + 1, none⟩ v1).setCell ⟨L, i * 3 + 2, none⟩ v2) := by
  have hil : i < ts.length := by rw [h.len]; exact hi
  have hoth : ∀ k, k ≠ L → (((W.setCell ⟨L, i * 3, none⟩ v0).setCell ⟨L, i * 3 + 1, none⟩ v1).setCell ⟨L, i * 3 + 2, none⟩ v2).heap[k]? = W.heap[k]? := fun k hk => by rw [other_set _ _ _ hk, other_set _ _ _ hk, other_set _ _ _ hk]
  refine ⟨?_, by simpa using h.len, ?_, ?_, ((h.be.setCell (p := ⟨L, i * 3, none⟩) h.hL v0).setCell (p := ⟨L, i * 3 + 1, none⟩) h.hL v1).setCell (p := ⟨L, i * 3 + 2, none⟩) h.hL v2, h.hL⟩
  · rw [heap_setCell_same (heap_setCell_same (heap_setCell_same h.arr v0) v1) v2, List.setIfInBounds_toArray, List.setIfInBounds_toArray, List.setIfInBounds_toArray, flat3_set ts i x v0 v1 v2 hx hil]
  · intro j u hj
    by_cases hji : j = i
    · subst hji
      rw [List.getElem?_set_self hil] at hj
      simp only [Option.some.injEq] at hj
      have := hnew u hj
      exact ⟨this.1.keep (fun k hk => hoth k (this.2 k hk).2.1), fun k hk => ⟨(this.2 k hk).1, (this.2 k hk).2.1⟩⟩
    · rw [List.getElem?_set_ne (Ne.symm hji)] at hj
      exact ⟨(h.each j u hj).1.keep (fun k hk => hoth k ((h.each j u hj).2 k hk).2), (h.each j u hj).2⟩
  · intro j k u v hjk hj hk m hm
    by_cases hji : j = i
    · subst hji
      rw [List.getElem?_set_self hil] at hj
      simp only [Option.some.injEq] at hj
      rw [List.getElem?_set_ne hjk] at hk
      exact ((hnew u hj).2 m hm).2.2 k v hk
    · rw [List.getElem?_set_ne (Ne.symm hji)] at hj
      by_cases hki : k = i
      · subst hki
        rw [List.getElem?_set_self hil] at hk
        simp only [Option.some.injEq] at hk
        intro hmv
        exact ((hnew v hk).2 m hmv).2.2 j u hj hm
      · rw [List.getElem?_set_ne (Ne.symm hki)] at hk
        exact h.disj j k u v hjk hj hk m hm
end
end Go.Proofs.Ytmpbdncgilahkaa

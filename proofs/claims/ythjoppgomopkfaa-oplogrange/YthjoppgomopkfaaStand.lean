import Derived.Test.YthjoppgomopkfaaHold
namespace Go.Proofs.Ythjoppgomopkfaa
open Go.RowKit
set_option linter.unusedVariables false

/-- A list that was handed out, all over its mark. -/
structure Mk where
  ao : Option Addr
  m : Nat
  c : Nat
  k : Nat
def Mk.v (x : Mk) : Value := .slice x.ao x.m x.c
def Mk.cells (x : Mk) : List Value := x.v :: (mark x.k).cells
def Mk.comp (x : Mk) : Comp := entC x.v (List.replicate x.m (mark x.k))
def flatM (l : List Mk) : List Value := l.flatMap Mk.cells
theorem flatM_len (l : List Mk) : (flatM l).length = l.length * 8 := by
  induction l with
  | nil => rfl
  | cons e l ih => simp only [flatM, List.flatMap_cons, List.length_append, List.length_cons] at ih ⊢; rw [ih]; simp [Mk.cells, Ent.len]; omega
theorem flatM_at {l : List Mk} {i : Nat} {e : Mk} (h : l[i]? = some e) {j : Nat} (hj : j < 8) : (flatM l)[i * 8 + j]? = e.cells[j]? := by
  induction l generalizing i with
  | nil => simp at h
  | cons q l ih =>
    have hq : q.cells.length = 8 := rfl
    cases i with
    | zero =>
      have : q = e := by simpa using h
      subst this
      simp only [flatM, List.flatMap_cons, Nat.zero_mul, Nat.zero_add]
      rw [List.getElem?_append_left (by omega)]
    | succ i =>
      have := ih (i := i) (by simpa using h)
      simp only [flatM, List.flatMap_cons]
      rw [List.getElem?_append_right (by omega), ← this, flatM]
      congr 1
      omega
abbrev markC (v : Value) (M : List Mk) : Comp := rowC 69 8 v M.length (flatM M)
theorem owns8 {w : World} {base : Nat} {ao : Option Addr} {n c : Nat} {l : List Mk} (h : w.ownsRow base 69 8 (.slice ao n c) l.length (flatM l)) {i : Nat} {x : Mk} (hx : l[i]? = some x) : ∃ g, ao = some ⟨g, 0, none⟩ ∧ g < w.heap.size ∧ w.cell? ⟨g, i * 8, none⟩ = some x.v ∧ entAt w g (i * 8 + 1) (mark x.k) := by
  have hi := (List.getElem?_eq_some_iff.1 hx).1
  rcases h.2 with ⟨e, e2⟩ | ⟨g, cap, cur, e, _, hg, hn, hm, hcs, ht⟩
  · omega
  · simp only [Value.slice.injEq] at e
    have key : ∀ j v, x.cells[j]? = some v → w.cell? ⟨g, i * 8 + j, none⟩ = some v := fun j v hv => by
      have hj : j < 8 := (List.getElem?_eq_some_iff.1 hv).1
      rw [cell_at hg, ← Array.getElem?_toList, ← hv, ← flatM_at hx hj, ← ht, List.getElem?_take, if_pos (by omega)]
    refine ⟨g, e.1, (Array.getElem?_eq_some_iff.1 hg).1, key 0 _ rfl, entAt_of (fun j v hv => ?_)⟩
    have := key (j + 1) v (by simpa [Mk.cells] using hv)
    rw [show i * 8 + 1 + j = i * 8 + (j + 1) by omega]
    exact this

set_option maxHeartbeats 1600000 in
set_option maxRecDepth 1000000 in
theorem stand_any {w : World} {am : Option Addr} {cm : Nat} {M : List Mk} (hM : w.ownsRow 0 69 8 (.slice am M.length cm) M.length (flatM M)) (hE : ∀ x ∈ M, w.ownsRow 0 39 7 x.v x.m (flatE (List.replicate x.m (mark x.k)))) (hl : M.length ≤ 1099511627776) (hm : ∀ x ∈ M, x.m ≤ 1099511627776 * 4) : Calls Try.prog 16 #[.slice am M.length cm] w fun e w' => e = .returned (.bool true) ∧ Below w.heap.size w w' := by
  have HM := hid hM
  have HE := hid hE
  have Hm := hid hm
  clear hM hE hm
  go_enter Try.func16, Try.ntmps16
  go_wp2
  go_loopw [9] (fun iv wr => ∃ (i : Nat), i ≤ M.length ∧ iv = .int .i64 (i : Int) ∧ Hid (Below w.heap.size w wr)) (fun iv _ => M.length - (intOf iv).toNat)
  case atStart => exact ⟨0, by omega, rfl, hid (Below.refl _ _)⟩
  case round =>
    obtain ⟨i, hi, rfl, HB⟩ := hrel
    by_cases hlt : i < M.length
    case neg =>
      have m1 : decide ((i : Int) < (M.length : Int)) = false := decide_eq_false (by omega)
      have m2 : ¬ (i : Int) < (M.length : Int) := by omega
      go_wp2
      go_ret
      exact ⟨rfl, HB.out⟩
    have m1 : decide ((i : Int) < (M.length : Int)) = true := decide_eq_true (by omega)
    have m2 : (i : Int) < (M.length : Int) := by omega
    obtain ⟨x, hx⟩ : ∃ x, M[i]? = some x := ⟨_, List.getElem?_eq_getElem hlt⟩
    have hmem := List.mem_of_getElem? hx
    have hmx := Hm.out x hmem
    obtain ⟨g, rfl, hg, y0, y1, y2, y3, y4, y5, y6, y7⟩ := owns8 HM.out hx
    have hgw : g < wr.heap.size := Nat.lt_of_lt_of_le hg HB.out.size
    have y0 := cell_under HB.out hg y0
    have y1 := cell_under HB.out hg y1
    have y2 := cell_under HB.out hg y2
    have y3 := cell_under HB.out hg y3
    have y4 := cell_under HB.out hg y4
    have y5 := cell_under HB.out hg y5
    have y6 := cell_under HB.out hg y6
    have y7 := cell_under HB.out hg y7
    have HO : Hid (∀ W, Below w.heap.size w W → ∀ j, j < x.m → ∃ gx, x.ao = some ⟨gx, 0, none⟩ ∧ gx < W.heap.size ∧ entAt W gx (j * 7) (mark x.k)) := hid (fun W hb j hj => by
      have ho : w.ownsRow 0 39 7 (.slice x.ao x.m x.c) (List.replicate x.m (mark x.k)).length (flatE (List.replicate x.m (mark x.k))) := by rw [List.length_replicate]; exact HE.out x hmem
      obtain ⟨gx, e1, e2, e3⟩ := owns7 ho (i := j) (x := mark x.k) (by simp [hj])
      exact ⟨gx, e1, Nat.lt_of_lt_of_le e2 hb.size, entAt_of (fun jj v hv => cell_under hb e2 (e3 jj v hv))⟩)
    have hK : g ≠ wr.heap.size := by omega
    simp only [Mk.v] at y0
    have HX := hid hx
    generalize mark x.k = M0 at *
    obtain ⟨xa, xm, xc, xk⟩ := x
    simp only at y0 hmx HO
    have HB2 := hid (below2 HB.out (ba wr (.cells #[.slice xa xm xc, .int .i64 M0.c, .int .i64 M0.n, .int .i64 M0.k, .string M0.nm, .string M0.tx, .int .i64 M0.m, .int .i64 M0.q] 69)))
    clear hx hmem HB HX
    go_wp2
    have hKK : wr.heap.size < (wr.alloc (.cells #[.slice xa xm xc, .int .i64 M0.c, .int .i64 M0.n, .int .i64 M0.k, .string M0.nm, .string M0.tx, .int .i64 M0.m, .int .i64 M0.q] 69)).heap.size := by simp
    obtain ⟨t1, t2, t3, t4, t5, t6, t7⟩ : entAt (wr.alloc (.cells #[.slice xa xm xc, .int .i64 M0.c, .int .i64 M0.n, .int .i64 M0.k, .string M0.nm, .string M0.tx, .int .i64 M0.m, .int .i64 M0.q] 69)) wr.heap.size 1 M0 := by
      have e := heap_alloc_new wr (.cells #[.slice xa xm xc, .int .i64 M0.c, .int .i64 M0.n, .int .i64 M0.k, .string M0.nm, .string M0.tx, .int .i64 M0.m, .int .i64 M0.q] 69)
      refine ⟨?_, ?_, ?_, ?_, ?_, ?_, ?_⟩ <;> (rw [cell_at e]; rfl)
    simp only [Nat.reduceAdd] at t1 t2 t3 t4 t5 t6 t7
    have T := hid (show _ ∧ _ ∧ _ ∧ _ ∧ _ ∧ _ ∧ _ from ⟨t1, t2, t3, t4, t5, t6, t7⟩)
    clear y0 y1 y2 y3 y4 y5 y6 y7 t1 t2 t3 t4 t5 t6 t7
    generalize wr.alloc (.cells #[.slice xa xm xc, .int .i64 M0.c, .int .i64 M0.n, .int .i64 M0.k, .string M0.nm, .string M0.tx, .int .i64 M0.m, .int .i64 M0.q] 69) = w4 at *
    generalize wr.heap.size = K at *
    have EQ := fun w => eq39 M0 M0 w
    simp only [decide_true] at EQ
    unfold Ent.V at EQ
    go_loopw [16] (fun jv ws => ∃ (j : Nat), j ≤ xm ∧ jv = .int .i64 (j : Int) ∧ Hid (Below w4.heap.size w4 ws)) (fun jv _ => xm - (intOf jv).toNat)
    case atStart => exact ⟨0, by omega, rfl, hid (Below.refl _ _)⟩
    case round =>
      obtain ⟨j, hj, rfl, HC⟩ := hrel
      by_cases hjl : j < xm
      · have q1 : decide ((j : Int) < (xm : Int)) = true := decide_eq_true (by omega)
        have q2 : (j : Int) < (xm : Int) := by omega
        obtain ⟨gx, rfl, hgx, z1, z2, z3, z4, z5, z6, z7⟩ := HO.out _ (below2 HB2.out HC.out) j hjl
        obtain ⟨t1, t2, t3, t4, t5, t6, t7⟩ := T.out
        have t1 := cell_under HC.out hKK t1
        have t2 := cell_under HC.out hKK t2
        have t3 := cell_under HC.out hKK t3
        have t4 := cell_under HC.out hKK t4
        have t5 := cell_under HC.out hKK t5
        have t6 := cell_under HC.out hKK t6
        have t7 := cell_under HC.out hKK t7
        have hKs : K < wr.heap.size := Nat.lt_of_lt_of_le hKK HC.out.size
        have nK : K ≠ wr.heap.size := by omega
        have nG : gx ≠ wr.heap.size := by omega
        have HC2 := hid (below2 HC.out (ba wr (.cells #[.int .i64 M0.c, .int .i64 M0.n, .int .i64 M0.k, .string M0.nm, .string M0.tx, .int .i64 M0.m, .int .i64 M0.q] 39)))
        clear HC T
        go_wp2
        go_roundw
        case rel => exact ⟨j + 1, by omega, by go_num, HC2⟩
        case measure => simp [intOf]; omega
      · have q1 : decide ((j : Int) < (xm : Int)) = false := decide_eq_false (by omega)
        have q2 : ¬ (j : Int) < (xm : Int) := by omega
        have HB3 := hid (below2 HB2.out HC.out)
        clear HC T HB2 HO
        go_wp2
        go_roundw
        case rel => exact ⟨i + 1, by omega, by go_num, HB3⟩
        case measure => simp [intOf]; omega
end Go.Proofs.Ythjoppgomopkfaa

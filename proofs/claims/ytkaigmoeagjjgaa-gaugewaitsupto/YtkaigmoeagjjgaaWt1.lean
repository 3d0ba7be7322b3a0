import Derived.Test.YtkaigmoeagjjgaaLen
namespace Go.Proofs.Ytkaigmoeagjjgaa
open Go.RowKit
set_option linter.unusedVariables false

/-! rows of one's own, of elements of some size -/
theorem owns_keepR {e : TypeId} {size n : Nat} {v : Value} {vs : List Value} {w w' : World} (h : w.ownsRow 0 e size v n vs) (hb : ∀ k ∈ v.ownBlock.toList, w'.heap[k]? = w.heap[k]?) : w'.ownsRow 0 e size v n vs := by
  refine ⟨h.1, ?_⟩
  rcases h.2 with hn | ⟨g, cap, cur, rfl, hg, hgg, rest⟩
  · exact Or.inl hn
  · exact Or.inr ⟨g, cap, cur, rfl, hg, by rw [hb g (by simp [Value.ownBlock])]; exact hgg, rest⟩
def rowC (e : TypeId) (size : Nat) (v : Value) (n : Nat) (vs : List Value) : Comp := ⟨fun w => w.ownsRow 0 e size v n vs, v.ownBlock.toList⟩
theorem rowC_good (e : TypeId) (size : Nat) (v : Value) (n : Nat) (vs : List Value) : (rowC e size v n vs).Good := fun w w' h hs hb => owns_keepR h hb
theorem All.addRow0 {e : TypeId} {size : Nat} {cs : List Comp} {w : World} (h : All cs w) : All (rowC e size (.slice none 0 0) 0 [] :: cs) w :=
  ⟨⟨rowC_good _ _ _ _ _, ⟨by simp, Or.inl ⟨rfl, rfl⟩⟩, fun k hk => by simp [rowC, Value.ownBlock] at hk⟩, fun d hd k hk => by simp [rowC, Value.ownBlock] at hk, h⟩
theorem All.rowGrow {e : TypeId} {size n n' : Nat} {v v' : Value} {vs vs' : List Value} {cs : List Comp} {w w1 : World} {base : Nat} (h : All (rowC e size v n vs :: cs) w) (hown : w1.ownsRow base e size v' n' vs') (hg : w.grownBy w1 v.ownBlock) (hat : v'.ownBlock = v.ownBlock ∨ v'.ownBlock = some w.heap.size) : All (rowC e size v' n' vs' :: cs) w1 := by
  have ho' := owns_zero hown
  refine h.turn ((grown_fr hg).mono (fun k hk => by simpa [rowC] using hk)) (rowC_good _ _ _ _ _) ho' (fun k hk => ?_) (fun k hk => ?_)
  · have hk' : v'.ownBlock = some k := by simpa [rowC] using hk
    rcases hat with e1 | e1
    · exact Or.inl (by simp [rowC, ← e1, hk'])
    · rw [e1] at hk'; simp at hk'; exact Or.inr (by omega)
  · have hk' : v'.ownBlock = some k := by simpa [rowC] using hk
    exact (ho'.lt k hk').2
theorem All.setRow1 {e : TypeId} {size n g c k : Nat} {vs : List Value} {cs : List Comp} {w : World} (h : All (rowC e size (.slice (some ⟨g, 0, none⟩) n c) n vs :: cs) w) (u : Value) : All (rowC e size (.slice (some ⟨g, 0, none⟩) n c) n (vs.set k u) :: cs) (w.setCell ⟨g, k, none⟩ u) := by
  have ho : w.ownsRow 0 e size (.slice (some ⟨g, 0, none⟩) n c) n vs := h.1.2.1
  refine h.turn ((Fr.setCell w g k u).mono (fun x hx => by simpa [rowC, Value.ownBlock] using hx)) (rowC_good _ _ _ _ _) ?_ (fun x hx => Or.inl hx) (fun x hx => by simpa [World.setCell] using h.1.2.2 x hx)
  refine ⟨by simpa using ho.1, ?_⟩
  rcases ho.2 with ⟨e1, _⟩ | ⟨g', cap, cur, e1, hg, hgg, hn, hm, hcs, ht⟩
  · cases e1
  · simp only [Value.slice.injEq, Option.some.injEq, Addr.mk.injEq] at e1
    obtain ⟨⟨rfl, _⟩, _, rfl⟩ := e1
    refine Or.inr ⟨g, c, cur.setIfInBounds k u, rfl, hg, heap_setCell_same hgg u, hn, hm, by simpa using hcs, ?_⟩
    rw [Array.toList_setIfInBounds, List.take_set, ht]
theorem row_cell {e : TypeId} {size n c k : Nat} {ao : Option Addr} {vs : List Value} {u : Value} {w : World} (h : w.ownsRow 0 e size (.slice ao n c) n vs) (hu : vs[k]? = some u) : ∃ g, ao = some ⟨g, 0, none⟩ ∧ g < w.heap.size ∧ w.cell? ⟨g, k, none⟩ = some u ∧ w.frozen? ⟨g, k, none⟩ = false := by
  have hc := fun g => World.ownsRow.cells h (g := g)
  have hk := (List.getElem?_eq_some_iff.1 hu).1
  rcases h.2 with ⟨e1, e2⟩ | ⟨gr, cap, cur, e1, _, hg, _⟩
  · have := h.1
    simp only [Value.slice.injEq] at e1
    rw [this, e1.2.1] at hk
    simp at hk
  · simp only [Value.slice.injEq] at e1
    obtain ⟨rfl, _, rfl⟩ := e1
    refine ⟨gr, rfl, (Array.getElem?_eq_some_iff.1 hg).1, ?_, free_at hg k⟩
    have := hc gr rfl k u hu
    simpa [Addr.add_lit] using this

/-! the document's spans -/
structure Sp where
  a : Int
  n : Int
  b : Int
  t : Int
  d : Bool
deriving DecidableEq
def Sp.cells (x : Sp) : List Value := [.int .i64 x.a, .int .i64 x.n, .int .i64 x.b, .int .i64 x.t, .bool x.d]
def flatP (l : List Sp) : List Value := l.flatMap Sp.cells
theorem flatP_len (l : List Sp) : (flatP l).length = l.length * 5 := by
  induction l with
  | nil => rfl
  | cons x l ih =>
    simp only [flatP, List.flatMap_cons, List.length_append, List.length_cons] at ih ⊢
    rw [ih]; simp [Sp.cells]; omega
theorem flatP_snoc (l : List Sp) (e : Sp) : flatP (l ++ [e]) = flatP l ++ e.cells := by simp [flatP]
theorem flatP_get : ∀ {ys : List Sp} {i j : Nat} {y : Sp}, ys[i]? = some y → j < 5 → (flatP ys)[i * 5 + j]? = y.cells[j]?
  | [], i, j, y, h, _ => by simp at h
  | x :: ys, 0, j, y, h, hj => by
    simp at h
    subst h
    simp only [flatP, List.flatMap_cons, Nat.zero_mul, Nat.zero_add]
    rw [List.getElem?_append_left (by simpa [Sp.cells] using hj)]
  | x :: ys, i + 1, j, y, h, hj => by
    simp at h
    have := flatP_get (j := j) h hj
    simp only [flatP, List.flatMap_cons] at this ⊢
    rw [List.getElem?_append_right (by simp [Sp.cells]; omega), ← this]
    congr 1
    simp [Sp.cells]
    omega
theorem flatP_set : ∀ {rs : List Sp} {i : Nat} {x : Sp} (t : Int) (d : Bool), rs[i]? = some x → flatP (rs.set i { x with t := t, d := d }) = ((flatP rs).set (i * 5 + 4) (.bool d)).set (i * 5 + 3) (.int .i64 t)
  | [], i, x, t, d, h => by simp at h
  | y :: rs, 0, x, t, d, h => by
    simp at h; subst h
    simp [flatP, Sp.cells]
  | y :: rs, i + 1, x, t, d, h => by
    have ih := flatP_set (rs := rs) (i := i) (x := x) t d (by simpa using h)
    simp only [flatP, List.set_cons_succ, List.flatMap_cons] at ih ⊢
    rw [ih]
    have e : (i + 1) * 5 = i * 5 + 5 := by omega
    rw [e]
    simp [Sp.cells]
theorem sp_at {w : World} {ao : Option Addr} {c i : Nat} {ys : List Sp} {y : Sp} (h : w.ownsRow 0 84 5 (.slice ao ys.length c) ys.length (flatP ys)) (hy : ys[i]? = some y) :
    ∃ gr, ao = some ⟨gr, 0, none⟩ ∧ gr < w.heap.size ∧ w.cell? ⟨gr, i * 5, none⟩ = some (.int .i64 y.a) ∧ w.cell? ⟨gr, i * 5 + 1, none⟩ = some (.int .i64 y.n) ∧ w.cell? ⟨gr, i * 5 + 2, none⟩ = some (.int .i64 y.b) ∧ w.cell? ⟨gr, i * 5 + 3, none⟩ = some (.int .i64 y.t) ∧ w.cell? ⟨gr, i * 5 + 4, none⟩ = some (.bool y.d) ∧ (∀ k, w.frozen? ⟨gr, k, none⟩ = false) := by
  have key : ∀ j u, j < 5 → y.cells[j]? = some u → ∃ g, ao = some ⟨g, 0, none⟩ ∧ g < w.heap.size ∧ w.cell? ⟨g, i * 5 + j, none⟩ = some u ∧ w.frozen? ⟨g, i * 5 + j, none⟩ = false := fun j u hj hu => row_cell h (by rw [flatP_get hy hj]; exact hu)
  obtain ⟨g, rfl, h1, h2, _⟩ := key 0 _ (by omega) rfl
  have get : ∀ j u, j < 5 → y.cells[j]? = some u → w.cell? ⟨g, i * 5 + j, none⟩ = some u := fun j u hj hu => by
    obtain ⟨g', e, _, h3, _⟩ := key j u hj hu
    simp only [Option.some.injEq, Addr.mk.injEq, and_true] at e
    subst e; exact h3
  refine ⟨g, rfl, h1, h2, get 1 _ (by omega) rfl, get 2 _ (by omega) rfl, get 3 _ (by omega) rfl, get 4 _ (by omega) rfl, fun k => ?_⟩
  rcases h.2 with ⟨e1, _⟩ | ⟨gr, cap, cur, e1, _, hg, _⟩
  · cases e1
  · simp only [Value.slice.injEq, Option.some.injEq, Addr.mk.injEq, and_true] at e1
    obtain ⟨rfl, _⟩ := e1
    exact free_at hg k

/-! what waits -/
def isOp (a n : Int) (x : Sp) : Bool := !x.d && (decide (x.a = a) && decide (x.n = n))
def opn (l : List Sp) (a n : Int) : Option Nat := l.findIdx? (isOp a n)
def opI (l : List Sp) (a n : Int) : Int := match opn l a n with | some i => i | none => -1
def wstep (l : List Sp) (k a n s : Int) : List Sp :=
  if k = 2 then (match opn l a n with | none => l ++ [⟨a, n, s, 0, false⟩] | some _ => l)
  else if k = 4 then (match opn l a n with | none => l | some i => match l[i]? with | some x => l.set i { x with t := s - x.b, d := true } | none => l)
  else l
def tooks (l : List Sp) : List Int := (l.filter (·.d)).map (·.t)
structure Ev where
  k : Int
  a : Int
  n : Int
  us : List Value
def wrow (l : List Sp) (r : List Ev) (s : Int) : List Sp := r.foldl (fun l e => wstep l e.k e.a e.n s) l
def wall (H : List (List Ev)) : List Sp := H.zipIdx.foldl (fun l p => wrow l p.1 (p.2 : Int)) []
theorem wrow_snoc (l : List Sp) (r : List Ev) (e : Ev) (s : Int) : wrow l (r ++ [e]) s = wstep (wrow l r s) e.k e.a e.n s := by simp [wrow]
theorem wall_snoc (H : List (List Ev)) (r : List Ev) : wall (H ++ [r]) = wrow (wall H) r (H.length : Int) := by simp [wall, List.zipIdx_append]
theorem tooks_snoc (l : List Sp) (x : Sp) : tooks (l ++ [x]) = tooks l ++ (if x.d = true then [x.t] else []) := by
  unfold tooks
  rw [List.filter_append, List.map_append]
  congr 1
  cases h : x.d <;> simp [h]
theorem wstep_len (l : List Sp) (k a n s : Int) : (wstep l k a n s).length ≤ l.length + 1 := by
  unfold wstep
  split
  · split <;> simp
  · split
    · split
      · omega
      · split <;> simp
    · omega
theorem wrow_len (r : List Ev) (s : Int) : ∀ l : List Sp, (wrow l r s).length ≤ l.length + r.length := by
  induction r with
  | nil => intro l; exact Nat.le_refl _
  | cons e r ih =>
    intro l
    have h1 := ih (wstep l e.k e.a e.n s)
    have h2 := wstep_len l e.k e.a e.n s
    have : wrow l (e :: r) s = wrow (wstep l e.k e.a e.n s) r s := rfl
    rw [this, List.length_cons]
    omega
end Go.Proofs.Ytkaigmoeagjjgaa

import Derived.Test.YtpfpamkbahgkpaaBase
namespace Go.Proofs.Ytpfpamkbahgkpaa
open Go.RowKit
set_option linter.unusedVariables false

/-- A packet; its bytes lie wherever they lie. -/
structure Pk where
  n : Int
  f : Int
  t : Int
  a : Int
  u : Int
  ao : Option Addr
  c : Nat
  bs : List UInt8
/-- What is seen of a packet. -/
def Pk.vis (p : Pk) : Int × Int × Int × Int × Int × List UInt8 := (p.n, p.f, p.t, p.a, p.u, p.bs)
/-- Its bytes. -/
abbrev Pk.D (p : Pk) : Value := .slice p.ao p.bs.length p.c
def Pk.cells (p : Pk) : List Value := [.int .i64 p.n, .int .i64 p.f, .int .i64 p.t, .int .i64 p.a, .int .i64 p.u, .slice p.ao p.bs.length p.c]
def Pk.zero : Pk := ⟨0, 0, 0, 0, 0, none, 0, []⟩
theorem Pk.len (e : Pk) : e.cells.length = 6 := rfl
theorem Pk.one (e : Pk) : ∀ u ∈ e.cells, u.oneCell' = true := by
  intro u hu
  simp only [Pk.cells, List.mem_cons, List.not_mem_nil, or_false] at hu
  rcases hu with rfl | rfl | rfl | rfl | rfl | rfl <;> rfl
theorem Pk.all (e : Pk) : e.cells.toArray.all (·.oneCell') = true := all_oneCell_toArray e.one
def flatP (l : List Pk) : List Value := l.flatMap Pk.cells
theorem flatP_nil : flatP [] = [] := rfl
theorem flatP_snoc (l : List Pk) (e : Pk) : flatP (l ++ [e]) = flatP l ++ e.cells := by simp [flatP]
theorem flatP_append (l m : List Pk) : flatP (l ++ m) = flatP l ++ flatP m := by simp [flatP]
theorem flatP_len (l : List Pk) : (flatP l).length = l.length * 6 := by
  induction l with
  | nil => rfl
  | cons e l ih => simp only [flatP, List.flatMap_cons, List.length_append, List.length_cons] at ih ⊢; rw [ih, Pk.len]; omega
theorem flatP_one (l : List Pk) : ∀ u ∈ flatP l, u.oneCell' = true := by
  intro u hu
  obtain ⟨e, _, h⟩ := List.mem_flatMap.1 hu
  exact e.one u h
theorem flatP_at {l : List Pk} {i : Nat} {e : Pk} (h : l[i]? = some e) {j : Nat} (hj : j < 6) : (flatP l)[i * 6 + j]? = e.cells[j]? := by
  induction l generalizing i with
  | nil => simp at h
  | cons q l ih =>
    have hq : q.cells.length = 6 := rfl
    cases i with
    | zero =>
      have : q = e := by simpa using h
      subst this
      simp only [flatP, List.flatMap_cons, Nat.zero_mul, Nat.zero_add]
      rw [List.getElem?_append_left (by omega)]
    | succ i =>
      have := ih (i := i) (by simpa using h)
      simp only [flatP, List.flatMap_cons]
      rw [List.getElem?_append_right (by omega), ← this, flatP]
      congr 1
      omega
theorem flatP_drop (l : List Pk) (n : Nat) : (flatP l).drop (n * 6) = flatP (l.drop n) := by
  induction l generalizing n with
  | nil => simp [flatP]
  | cons e l ih =>
    cases n with
    | zero => simp
    | succ n =>
      have : (n + 1) * 6 = e.cells.length + n * 6 := by rw [e.len]; omega
      simp only [flatP, List.flatMap_cons, List.drop_succ_cons] at ih ⊢
      rw [this, List.drop_append, List.drop_eq_nil_of_le (by omega), Nat.add_sub_cancel_left]
      exact ih n
theorem flatP_take (l : List Pk) (n : Nat) : (flatP l).take (n * 6) = flatP (l.take n) := by
  induction l generalizing n with
  | nil => simp [flatP]
  | cons e l ih =>
    cases n with
    | zero => simp [flatP]
    | succ n =>
      have : (n + 1) * 6 = e.cells.length + n * 6 := by rw [e.len]; omega
      simp only [flatP, List.flatMap_cons, List.take_succ_cons] at ih ⊢
      rw [this, List.take_append, List.take_of_length_le (by omega), Nat.add_sub_cancel_left]
      rw [ih n]
/-- Cells that are written one behind the other. -/
def setAll (vs : List Value) (o : Nat) : List Value → List Value
  | [] => vs
  | u :: us => setAll (vs.set o u) (o + 1) us
theorem setAll_pre (a : List Value) : ∀ (us vs : List Value) (o : Nat), setAll (a ++ vs) (a.length + o) us = a ++ setAll vs o us
  | [], vs, o => rfl
  | u :: us, vs, o => by
    simp only [setAll]
    rw [List.set_append_right _ _ (by omega), Nat.add_sub_cancel_left, Nat.add_assoc]
    exact setAll_pre a us (vs.set o u) (o + 1)
theorem setAll_head : ∀ (us old rest : List Value), us.length = old.length → setAll (old ++ rest) 0 us = us ++ rest
  | [], [], rest, _ => rfl
  | u :: us, v :: old, rest, h => by
    simp only [setAll, List.cons_append, List.set_cons_zero]
    have := setAll_pre [u] us (old ++ rest) 0
    simp only [List.cons_append, List.nil_append, List.length_cons, List.length_nil, Nat.zero_add, Nat.add_zero] at this
    rw [Nat.zero_add, this, setAll_head us old rest (by simpa using h)]
theorem flatP_set (l : List Pk) (i : Nat) (e : Pk) (hi : i < l.length) : setAll (flatP l) (i * 6) e.cells = flatP (l.set i e) := by
  induction l generalizing i with
  | nil => simp at hi
  | cons q l ih =>
    cases i with
    | zero =>
      simp only [flatP, List.flatMap_cons, Nat.zero_mul, List.set_cons_zero]
      exact setAll_head e.cells q.cells _ rfl
    | succ i =>
      have := ih i (by simpa using hi)
      simp only [flatP, List.flatMap_cons, List.set_cons_succ] at this ⊢
      have e6 : (i + 1) * 6 = q.cells.length + i * 6 := by rw [q.len]; omega
      rw [e6, setAll_pre, this]

theorem All.setBlks {g : Nat} {t : TypeId} {cs : List Comp} : ∀ (us vs : List Value) (w : World) (o : Nat), All (blkC g vs t :: cs) w → All (blkC g (setAll vs o us) t :: cs) (w.setCells g o us)
  | [], vs, w, o, h => h
  | u :: us, vs, w, o, h => by
    rw [World.setCells]
    exact All.setBlks us (vs.set o u) _ (o + 1) (h.setBlk o u)


theorem Try.info49 : (Try.prog.info? 49).map (fun i => (i.zero, i.size, i.bytes)) = some (some (.agg Pk.zero.cells.toArray), 6, 64) := by kernel_rfl
theorem size49 : (Try.prog.info? 49).map (·.size) = some 6 := by kernel_rfl
theorem size72 : (Try.prog.info? 72).map (·.size) = some 3 := by kernel_rfl
theorem under49 : ∃ d, Try.prog.underlying 49 = some d ∧ d.isRow = true := ⟨_, Try.underlying49, rfl⟩
theorem range_of {w : World} {b : Nat} {l : List Pk} {t : TypeId} (h : w.heap[b]? = some (.cells (flatP l).toArray t (0, 0))) {i : Nat} {e : Pk} (he : l[i]? = some e) : w.rangeAt b (i * 6) e.cells := by
  intro j v hv
  have hj : j < 6 := by have := (List.getElem?_eq_some_iff.1 hv).1; rwa [e.len] at this
  rw [cell_at h, List.getElem?_toArray, flatP_at he hj]
  exact hv
theorem range_one {w : World} {b : Nat} {e : Pk} {t : TypeId} (h : w.heap[b]? = some (.cells e.cells.toArray t (0, 0))) : w.rangeAt b 0 e.cells := by
  intro j v hv
  rw [cell_at h, List.getElem?_toArray, Nat.zero_add]
  exact hv
theorem there_of {w : World} {b : Nat} {l : List Value} {t : TypeId} (h : w.heap[b]? = some (.cells l.toArray t (0, 0))) {o n : Nat} (hn : o + n ≤ l.length) : w.there b o n := by
  intro j hj
  refine ⟨?_, free_at h _⟩
  rw [cell_at h, List.getElem?_toArray, List.getElem?_eq_getElem (by omega)]
  rfl
/-- A row of one's own, whatever its elements' size. -/
def rowC (e : TypeId) (size : Nat) (v : Value) (n : Nat) (vs : List Value) : Comp := ⟨fun w => w.ownsRow 0 e size v n vs, v.ownBlock.toList⟩
theorem owns_keep {w w' : World} {e : TypeId} {size n : Nat} {v : Value} {vs : List Value} (h : w.ownsRow 0 e size v n vs) (hb : ∀ k ∈ v.ownBlock.toList, w'.heap[k]? = w.heap[k]?) : w'.ownsRow 0 e size v n vs :=
  ⟨h.1, by
    rcases h.2 with hn | ⟨g, cap, cur, rfl, hg, hgg, rest⟩
    · exact Or.inl hn
    · exact Or.inr ⟨g, cap, cur, rfl, hg, by rw [hb g (by simp [Value.ownBlock])]; exact hgg, rest⟩⟩
theorem rowC_good (e : TypeId) (size : Nat) (v : Value) (n : Nat) (vs : List Value) : (rowC e size v n vs).Good := fun w w' h hs hb => owns_keep h hb
theorem All.addRow0 {e : TypeId} {size : Nat} {cs : List Comp} {w : World} (h : All cs w) : All (rowC e size (.slice none 0 0) 0 [] :: cs) w :=
  ⟨⟨rowC_good _ _ _ _ _, ⟨by simp, Or.inl ⟨rfl, rfl⟩⟩, fun k hk => by simp [rowC, Value.ownBlock] at hk⟩, fun d hd k hk => by simp [rowC, Value.ownBlock] at hk, h⟩
theorem All.rowGrow {e : TypeId} {size n n' : Nat} {v v' : Value} {vs vs' : List Value} {cs : List Comp} {w w1 : World} {base : Nat} (h : All (rowC e size v n vs :: cs) w) (hown : w1.ownsRow base e size v' n' vs') (hg : w.grownBy w1 v.ownBlock) (hat : v'.ownBlock = v.ownBlock ∨ v'.ownBlock = some w.heap.size) : All (rowC e size v' n' vs' :: cs) w1 := by
  have ho' := owns_zero hown
  refine h.turn ((grown_fr hg).mono (fun k hk => by simpa [rowC] using hk)) (rowC_good _ _ _ _ _) ho' (fun k hk => ?_) (fun k hk => ?_)
  · have hk' : v'.ownBlock = some k := by simpa [rowC] using hk
    rcases hat with e1 | e1
    · exact Or.inl (by simp [rowC, ← e1, hk'])
    · rw [e1] at hk'; simp at hk'; exact Or.inr (by omega)
  · have hk' : v'.ownBlock = some k := by simpa [rowC] using hk
    exact (ho'.lt k hk').2

/-- A row of packets. -/
abbrev pkC (v : Value) (l : List Pk) : Comp := rowC 49 6 v l.length (flatP l)
theorem owns6 {w : World} {base : Nat} {ao : Option Addr} {n c : Nat} {l : List Pk} (h : w.ownsRow base 49 6 (.slice ao n c) l.length (flatP l)) {i : Nat} {x : Pk} (hx : l[i]? = some x) : ∃ g, ao = some ⟨g, 0, none⟩ ∧ g < w.heap.size ∧ w.rangeAt g (i * 6) x.cells := by
  have hi := (List.getElem?_eq_some_iff.1 hx).1
  rcases h.2 with ⟨e, e2⟩ | ⟨g, cap, cur, e, _, hg, hn, hm, hcs, ht⟩
  · omega
  · simp only [Value.slice.injEq] at e
    refine ⟨g, e.1, (Array.getElem?_eq_some_iff.1 hg).1, fun j v hv => ?_⟩
    have hj : j < 6 := by have := (List.getElem?_eq_some_iff.1 hv).1; rwa [x.len] at this
    rw [cell_at hg, ← Array.getElem?_toList, ← hv, ← flatP_at hx hj, ← ht, List.getElem?_take, if_pos (by omega)]
theorem owns6_form {w : World} {base : Nat} {v : Value} {l : List Pk} (h : w.ownsRow base 49 6 v l.length (flatP l)) : ∃ ao c, v = .slice ao l.length c ∧ l.length ≤ c := by
  rcases h.2 with ⟨rfl, e⟩ | ⟨g, cap, cur, rfl, _, hg, hn, hm, hcs, ht⟩
  · exact ⟨none, 0, by rw [e], by omega⟩
  · exact ⟨_, cap, rfl, by omega⟩
/-- A new row. -/
theorem All.addPks {cs : List Comp} {w : World} (h : All cs w) (l : List Pk) (hl : l.length ≤ maxLen) : All (pkC (.slice (some ⟨w.heap.size, 0, none⟩) l.length l.length) l :: cs) (w.alloc (.cells (flatP l).toArray 49)) := by
  refine h.add (Fr.below (ba w _)) (rowC_good _ _ _ _ _) ?_ (fun k hk => ?_)
  · refine ⟨by rw [flatP_len], Or.inr ⟨w.heap.size, l.length, (flatP l).toArray, rfl, Nat.zero_le _, heap_alloc_new w _, Nat.le_refl _, hl, by rw [List.size_toArray, flatP_len], by rw [← flatP_len]; simp⟩⟩
  · have : k = w.heap.size := by simpa [rowC, Value.ownBlock, eq_comm] using hk
    subst this
    exact ⟨Nat.le_refl _, by simp⟩

theorem All.addRow {cs : List Comp} {w w' : World} {v : Value} {l : List Pk} (h : All cs w) (hb : Below w.heap.size w w') (ho : w'.ownsRow w.heap.size 49 6 v l.length (flatP l)) : All (pkC v l :: cs) w' := by
  refine h.add (Fr.below hb) (rowC_good _ _ _ _ _) (owns_zero ho) (fun k hk => ?_)
  have hk' : v.ownBlock = some k := by simpa [rowC] using hk
  exact World.ownsRow.lt ho k hk'
theorem wpList_append_run {P : Program} {w : World} {ops : Array Oper} {rest : List Oper} {o : Oper} {a : Act} {Q : Exit → Act → World → Prop} (hgd : o.guard = none) (s x : Operand) (t : TypeId)
    (ho : o.op = .call { callee := .builtin .append, args := #[s, x], argTypes := #[t, t] }) (v1 v2 v' : Value) (w' : World) (hs : a.eval s = v1) (hx : a.eval x = v2)
    (hr : (Builtin.append_ #[t, t] o.type #[v1, v2]).run P w = .ok v' w') (h : wpList P ops Q rest (a.put o.dst v') w') : wpList P ops Q (o :: rest) a w := by
  refine wpList_plain hgd fun K hK => ?_
  unfold Oper.wp execOp
  simp only [ho, resolve, invoke, builtin, Sem.run_bind, Sem.run_pure, Result.andThen_ok, List.map_toArray, List.map_cons, List.map_nil, hs, hx, hr]
  exact hK _ _ h
/-- An append, in a region that draws. -/
theorem step_append_run {P : Program} {w : World} {ops : Array Oper} {o : Oper} {a : Act} {K : Act → World → Prop} {Q : Exit → Act → World → Prop} {E : Prop} (hgd : o.guard = none) (s x : Operand) (t : TypeId)
    (ho : o.op = .call { callee := .builtin .append, args := #[s, x], argTypes := #[t, t] }) (v1 v2 v' : Value) (w' : World) (hs : a.eval s = v1) (hx : a.eval x = v2)
    (hr : (Builtin.append_ #[t, t] o.type #[v1, v2]).run P w = .ok v' w') (h : K (a.put o.dst v') w') :
    if Region.wanted o (yielded ops a.tmps) = true then Oper.wp P o a w K Q else E := by
  have hw : Region.wanted o (yielded ops a.tmps) = true := by simp [Region.wanted, hgd]
  rw [if_pos hw]
  unfold Oper.wp execOp
  simp only [ho, resolve, invoke, builtin, Sem.run_bind, Sem.run_pure, Result.andThen_ok, List.map_toArray, List.map_cons, List.map_nil, hs, hx, hr]
  exact h
/-- One packet more. -/
theorem app_one {W : World} {K : Nat} {x : Pk} {v : Value} {l : List Pk} {cs : List Comp} (A : All (pkC v l :: cs) W) (hK : W.heap[K]? = some (.cells x.cells.toArray 49 (0, 0))) (hlen : (l.length + 1) * 64 ≤ 140737488355328) :
    ∃ ao c w', (Builtin.append_ #[39, 39] 39 #[v, .slice (some ⟨K, 0, none⟩) 1 1]).run Try.prog W = .ok (.slice ao (l.length + 1) c) w' ∧ All (pkC (.slice ao (l.length + 1) c) (l ++ [x]) :: cs) w' := by
  obtain ⟨i1, hi1, hz0, hz1, hz2⟩ := info_parts Try.info49
  obtain ⟨v', w', hr, h2, h3, h4, h5⟩ := run_append_own_at (P := Try.prog) W 0 39 39 49 i1 (.agg Pk.zero.cells.toArray) 6 64 Try.underlying39 hi1 hz0 hz1 hz2 rfl (by decide) v l.length (flatP l) A.1.2.1 ⟨K, 0, none⟩ 1 1 x.cells rfl
    (fun j u hu => by rw [Addr.add_lit, Nat.zero_add, cell_at hK]; exact (List.getElem?_toArray ..).trans hu) x.one (by unfold maxLen; omega) hlen (by omega)
  obtain ⟨ao, c, rfl⟩ := owns_form h2
  exact ⟨ao, c, w', hr, A.rowGrow (vs' := flatP (l ++ [x])) (n' := (l ++ [x]).length) (by rw [flatP_snoc, List.length_append]; exact h2) h3 h5⟩


/-- Bytes that are never written again. -/
def poolC (P : List (Value × List UInt8)) : Comp := ⟨fun w => ∀ e ∈ P, w.ownsRow 0 5 1 e.1 e.2.length (cellsB e.2), P.flatMap fun e => e.1.ownBlock.toList⟩
theorem poolC_good (P : List (Value × List UInt8)) : (poolC P).Good := fun w w' h hs hb e he =>
  owns_keep (h e he) (fun k hk => hb k (List.mem_flatMap.2 ⟨e, he, hk⟩))
theorem All.pool0 {cs : List Comp} {w : World} (h : All cs w) : All (poolC [] :: cs) w :=
  ⟨⟨poolC_good _, fun e he => (by cases he), fun k hk => (by simp [poolC] at hk)⟩, fun d hd k hk => by simp [poolC] at hk, h⟩
/-- Bytes of one's own. -/
abbrev byC (v : Value) (l : List UInt8) : Comp := ownC 5 v (cellsB l)
theorem All.poolAdd {v : Value} {l : List UInt8} {P : List (Value × List UInt8)} {cs : List Comp} {w : World} (h : All (byC v l :: poolC P :: cs) w) : All (poolC ((v, l) :: P) :: cs) w := by
  obtain ⟨⟨g1, h1, l1⟩, d1, ⟨g2, h2, l2⟩, d2, h3⟩ := h
  refine ⟨⟨poolC_good _, ?_, ?_⟩, ?_, h3⟩
  · intro e he
    rcases List.mem_cons.1 he with rfl | he
    · have h1' : w.ownsRow 0 5 1 v (cellsB l).length (cellsB l) := h1
      rw [cellsB_length] at h1'
      exact h1'
    · exact h2 e he
  · intro k hk
    simp only [poolC, List.flatMap_cons, List.mem_append] at hk
    rcases hk with hk | hk
    · exact l1 k hk
    · exact l2 k hk
  · intro d hd k hk
    simp only [poolC, List.flatMap_cons, List.mem_append] at hk
    rcases hk with hk | hk
    · exact d1 d (by simp [hd]) k hk
    · exact d2 d hd k hk
theorem All.poolReads {P : List (Value × List UInt8)} {cs : List Comp} {w : World} (h : All cs w) (hP : poolC P ∈ cs) {v : Value} {l : List UInt8} (hm : (v, l) ∈ P) : Reads w v l :=
  Reads.of_owns ((h.mem hP).2.1 (v, l) hm)
theorem All.byReads {cs : List Comp} {w : World} (h : All cs w) {v : Value} {l : List UInt8} (hm : byC v l ∈ cs) : Reads w v l := by
  have := (h.mem hm).2.1
  have h1' : w.ownsRow 0 5 1 v (cellsB l).length (cellsB l) := this
  rw [cellsB_length] at h1'
  exact Reads.of_owns h1'
theorem perm_by (n : Nat) (ls : List (List Comp)) (σ : List Nat) (hn : ls.length = n) (h : σ.Perm (List.range n)) : ls.flatten.Perm (σ.map fun i => ls.getD i []).flatten := by
  subst hn
  have h1 : ls = (List.range ls.length).map fun i => ls.getD i [] := by
    refine List.ext_getElem (by simp) fun i h1 h2 => ?_
    simp [List.getD, h1]
  have h2 := (h.map fun i => ls.getD i []).flatten
  rw [← h1] at h2
  exact h2.symm
end Go.Proofs.Ytpfpamkbahgkpaa

import Derived.Test.YthnccpbgccmapabDoorTake
import Derived.Test.YthnccpbgccmapabDoorSep
import Derived.ArgAppend
import Derived.Deep.RegionLaw
namespace Go.Proofs.YthnccpbgccmapabDoor
open Go.RowKit
set_option linter.unusedVariables false

theorem Reads.some_cells {w : World} {a : Addr} {n c : Nat} {l : List UInt8} (h : Reads w (.slice (some a) n c) l) : n = l.length ∧ ∀ j u, (cellsB l)[j]? = some u → w.cell? (a.add j) = some u := by
  obtain ⟨ao, c0, e, _, hcase⟩ := h
  simp only [Value.slice.injEq] at e
  obtain ⟨rfl, rfl, rfl⟩ := e
  refine ⟨rfl, fun j u hu => ?_⟩
  rcases hcase with ⟨rfl, _⟩ | ⟨g, o, e', hg, hcell⟩
  · simp [cellsB] at hu
  · simp only [Option.some.injEq] at e'
    subst e'
    rw [Addr.add_lit]
    exact hcell j u hu

theorem Reads.none_nil {w : World} {n c : Nat} {l : List UInt8} (h : Reads w (.slice none n c) l) : l = [] ∧ c = 0 ∧ n = 0 := by
  obtain ⟨ao, c0, e, _, hcase⟩ := h
  simp only [Value.slice.injEq] at e
  obtain ⟨rfl, rfl, rfl⟩ := e
  rcases hcase with ⟨rfl, h0⟩ | ⟨g, o, e', hg, hcell⟩
  · exact ⟨rfl, h0 rfl, rfl⟩
  · cases e'

/-- Bytes, whatever slice they came in, are appended to a list of one's own. -/
theorem wpList_append_bytes {w : World} {ops : Array Oper} {rest : List Oper} {o : Oper} {a : Act} {Q : Exit → Act → World → Prop} (hgd : o.guard = none) (s x : Operand)
    (ho : o.op = .call { callee := .builtin .append, args := #[s, x], argTypes := #[26, 26] })
    (base : Nat) (v : Value) (xs l : List UInt8) (sv : Value) (hs : a.eval s = v) (hx : a.eval x = sv) (hown : w.ownsRow base 5 1 v xs.length (cellsB xs)) (hr : Reads w sv l)
    (hb : xs.length + l.length ≤ 140737488355328) (hbase : base ≤ w.heap.size)
    (h : ∀ v' w', w'.ownsRow base 5 1 v' (xs ++ l).length (cellsB (xs ++ l)) → w.grownBy w' v.ownBlock → (v'.ownBlock = v.ownBlock ∨ v'.ownBlock = some w.heap.size) → wpList Tryd.prog ops Q rest (a.put o.dst v') w') :
    wpList Tryd.prog ops Q (o :: rest) a w := by
  obtain ⟨i0, hi, hz0, hz1, hz2⟩ := info_parts Tryd.info5
  obtain ⟨ao, c, hf⟩ := hr.form
  subst hf
  cases ao with
  | none =>
    obtain ⟨rfl, rfl, _⟩ := hr.none_nil
    refine wpList_append_own_none hgd s x 26 ho base 5 i0 1 Tryd.underlying26 hi v xs.length (cellsB xs) hs hown hx ?_
    refine h v w ?_ ⟨rfl, rfl, rfl, Nat.le_refl _, fun _ _ _ => rfl⟩ (Or.inl rfl)
    simpa using hown
  | some ad =>
    obtain ⟨_, hcell⟩ := hr.some_cells
    refine wpList_append_own_at _ hgd s x 26 ho base 5 i0 (.int .u8 0) 1 1 Tryd.underlying26 hi hz0 hz1 hz2 rfl (by decide) v xs.length (cellsB xs) hs hown ad l.length c (cellsB l) hx (by rw [cellsB_length]; omega) hcell (cellsB_one _) (by unfold maxLen; omega) (by omega) hbase ?_
    intro v' w' h1 h2 _ h4
    exact h v' w' (by rw [List.length_append, cellsB_append]; exact h1) h2 h4

theorem grown_below' {w0 w w1 : World} {v : Value} {base n : Nat} {xs : List Value} (hb : Below w0.heap.size w0 w) (h : w.ownsRow base 5 1 v n xs) (hbase : w0.heap.size ≤ base) (hg : w.grownBy w1 v.ownBlock) : Below w0.heap.size w0 w1 :=
  hb.grown hg hb.size (fun j hj => Nat.le_trans hbase (h.lt j hj).1)

theorem owns_new (w : World) (bs : List UInt8) (cs : Array Value) (n : Nat) (hn : n = bs.length) (hcs : cs = (cellsB bs).toArray) (hl : bs.length ≤ 1000) : (w.alloc (.cells cs 5)).ownsRow w.heap.size 5 1 (.slice (some ⟨w.heap.size, 0, none⟩) n n) bs.length (cellsB bs) := by
  subst hn hcs
  exact owns_blk (heap_alloc_new w _) (Nat.le_refl _) (by omega)

theorem Tryd.info26 : (Tryd.prog.info? 26).map (fun i => (i.zero, i.size, i.bytes)) = some (some (.slice none 0 0), 1, 24) := by kernel_rfl

/-- Lists that wait, the first in front. -/
def Que (w : World) (v : Value) (vs : List Value) : Prop :=
  (v = .slice none 0 0 ∧ vs = []) ∨ ∃ g o cap cur, v = .slice (some ⟨g, o, none⟩) vs.length cap ∧ w.heap[g]? = some (.cells cur 26 (0, 0)) ∧ o + cap ≤ cur.size ∧ vs.length ≤ cap ∧ cap ≤ maxLen ∧ ∀ j u, vs[j]? = some u → cur[o + j]? = some u

theorem Que.of_owns {w : World} {base : Nat} {v : Value} {vs : List Value} (h : w.ownsRow base 26 1 v vs.length vs) : Que w v vs := by
  rcases h.2 with ⟨rfl, e⟩ | ⟨g, cap, cur, rfl, _, hg, hn, hm, hcs, ht⟩
  · exact Or.inl ⟨rfl, List.eq_nil_of_length_eq_zero e⟩
  · refine Or.inr ⟨g, 0, cap, cur, rfl, hg, by omega, hn, hm, fun j u hu => ?_⟩
    have hj := (List.getElem?_eq_some_iff.1 hu).1
    rw [← ht, List.getElem?_take, if_pos (by omega)] at hu
    rw [Nat.zero_add, ← Array.getElem?_toList]
    exact hu

theorem Que.form {w : World} {v : Value} {vs : List Value} (h : Que w v vs) : ∃ ao cap, v = .slice ao vs.length cap := by
  rcases h with ⟨rfl, rfl⟩ | ⟨g, o, cap, cur, rfl, _⟩
  · exact ⟨none, 0, rfl⟩
  · exact ⟨_, cap, rfl⟩

def qC (v : Value) (vs : List Value) : Comp := ⟨fun w => Que w v vs, v.ownBlock.toList⟩

theorem qC_good (v : Value) (vs : List Value) : (qC v vs).Good := by
  intro w w' h hs hb
  rcases h with hn | ⟨g, o, cap, cur, rfl, hg, rest⟩
  · exact Or.inl hn
  · exact Or.inr ⟨g, o, cap, cur, rfl, by rw [hb g (by simp [qC, Value.ownBlock])]; exact hg, rest⟩

/-- One more waits. -/
theorem run_append_que {w : World} (ty : TypeId) {v x : Value} {vs : List Value} (h : Que w v vs) (ad : Addr) (hx : w.cell? ad = some x) (h1 : x.oneCell' = true) (hl : vs.length ≤ 1099511627776) :
    ∃ ao cap w', (Builtin.append_ #[29, 29] ty #[v, .slice (some ad) 1 1]).run Tryd.prog w = .ok (.slice ao (vs.length + 1) cap) w' ∧ Que w' (.slice ao (vs.length + 1) cap) (vs ++ [x]) ∧ w.grownBy w' v.ownBlock ∧ (∀ k, (Value.slice ao (vs.length + 1) cap).ownBlock = some k → (v.ownBlock = some k ∨ w.heap.size ≤ k) ∧ k < w'.heap.size) := by
  obtain ⟨i, hi, hz0, hz1, hz2⟩ := info_parts Tryd.info26
  have hnews : ∀ j u, ([x] : List Value)[j]? = some u → w.cell? (ad.add j) = some u := by
    intro j u hj
    match j, hj with
    | 0, hj =>
      simp at hj
      subst hj
      have e : ad.add 0 = ad := by unfold Addr.add; split <;> simp_all
      rw [e]
      exact hx
  have hone : ∀ u ∈ [x], u.oneCell' = true := fun u hu => by simp at hu; subst hu; exact h1
  rcases h with ⟨rfl, rfl⟩ | ⟨g, o, cap, cur, rfl, hg, hoc, hn, hm, hcur⟩
  · have hown : w.ownsRow 0 26 1 (.slice none 0 0) 0 [] := ⟨by simp, Or.inl ⟨rfl, rfl⟩⟩
    obtain ⟨v', w', hr, h2, h3, h4, h5⟩ := run_append_own_at (P := Tryd.prog) w 0 29 ty 26 i (.slice none 0 0) 1 24 Tryd.underlying29 hi hz0 hz1 hz2 rfl (by decide) (.slice none 0 0) 0 [] hown ad 1 1 [x] rfl hnews hone (by unfold maxLen; omega) (by omega) (by omega)
    obtain ⟨ao, cap, hv⟩ := owns_form h2
    subst hv
    refine ⟨ao, cap, w', hr, Que.of_owns h2, h3, fun k hk => ⟨?_, (h2.lt k hk).2⟩⟩
    rcases h5 with e | e
    · exact Or.inl (e.symm.trans hk)
    · have h6 : some w.heap.size = some k := e.symm.trans hk
      simp at h6
      exact Or.inr (by omega)
  · have hcells : ∀ j u, vs[j]? = some u → w.cell? ((⟨g, o, none⟩ : Addr).add j) = some u := fun j u hu => by
      rw [Addr.add_lit, cell_at hg]
      exact hcur j u hu
    have hglt := (Array.getElem?_eq_some_iff.1 hg).1
    by_cases hroom : vs.length + 1 ≤ cap
    · have hr := run_append_room_cells (P := Tryd.prog) w 29 ty 26 i Tryd.underlying29 hi g o vs.length cap ad 1 1 [x] (by rw [hz1]; rfl) hnews hone hroom
        (fun j hj => by
          simp at hj; subst hj
          rw [cell_at hg, hz1]
          have : o + vs.length * 1 + 0 < cur.size := by omega
          simp; omega)
        (fun j hj => free_at hg _)
      rw [hz1] at hr
      refine ⟨_, cap, _, hr, Or.inr ⟨g, o, cap, cur.setIfInBounds (o + vs.length) x, by simp, ?_, by simpa using hoc, by simpa using hroom, hm, fun j u hu => ?_⟩, ⟨rfl, rfl, rfl, ?_, fun k hk hne => ?_⟩, fun k hk => ⟨Or.inl hk, ?_⟩⟩
      · simp only [World.setCells, Nat.mul_one]
        exact heap_setCell_same hg x
      · rw [Array.getElem?_setIfInBounds]
        by_cases hj : j < vs.length
        · rw [if_neg (by omega)]
          rw [List.getElem?_append_left hj] at hu
          exact hcur j u hu
        · have hj' := (List.getElem?_eq_some_iff.1 hu).1
          simp at hj'
          have : j = vs.length := by omega
          subst this
          rw [if_pos rfl, if_pos (by omega)]
          simpa using hu
      · simp [World.setCells, World.setCell]
      · simp only [World.setCells, Nat.mul_one]
        exact Below.heap_setCell _ _ _ _ (by intro e; exact hne (by simp [Value.ownBlock, show k = g from e]))
      · simp [Value.ownBlock] at hk
        subst hk
        simpa [World.setCells, World.setCell] using hglt
    · obtain ⟨v', w', hr, h2, h3⟩ := run_append_arg_grows (P := Tryd.prog) w 29 ty 26 i (.slice none 0 0) 1 24 Tryd.underlying29 hi hz0 hz1 hz2 rfl (by decide) ⟨g, o, none⟩ vs.length cap vs (by simp) hcells ad 1 1 [x] rfl hnews (by omega) (by unfold maxLen; omega) (by omega)
      obtain ⟨ao, cap', hv⟩ := owns_form h2
      subst hv
      refine ⟨ao, cap', w', hr, Que.of_owns (by rw [List.length_append]; exact h2), ⟨h3.os, h3.tape, h3.output, h3.size, fun k hk hne => h3.block k hk (by simp)⟩, fun k hk => ⟨Or.inr (h2.lt k hk).1, (h2.lt k hk).2⟩⟩

theorem step_append_que {w : World} {ops : Array Oper} {o : Oper} {a : Act} {K : Act → World → Prop} {Q : Exit → Act → World → Prop} {E : Prop} (hgd : o.guard = none) (s x : Operand)
    (ho : o.op = .call { callee := .builtin .append, args := #[s, x], argTypes := #[29, 29] })
    (v xv : Value) (vs : List Value) (hs : a.eval s = v) (hq : Que w v vs) (ad : Addr) (hx : a.eval x = .slice (some ad) 1 1) (hxc : w.cell? ad = some xv) (h1 : xv.oneCell' = true) (hl : vs.length ≤ 1099511627776)
    (h : ∀ ao cap w', Que w' (.slice ao (vs.length + 1) cap) (vs ++ [xv]) → w.grownBy w' v.ownBlock → (∀ k, (Value.slice ao (vs.length + 1) cap).ownBlock = some k → (v.ownBlock = some k ∨ w.heap.size ≤ k) ∧ k < w'.heap.size) → K (a.put o.dst (.slice ao (vs.length + 1) cap)) w') :
    if Region.wanted o (yielded ops a.tmps) = true then Oper.wp Tryd.prog o a w K Q else E := by
  have hw : Region.wanted o (yielded ops a.tmps) = true := by simp [Region.wanted, hgd]
  rw [if_pos hw]
  obtain ⟨ao, cap, w', hr, h2, h3, h4⟩ := run_append_que (w := w) o.type hq ad hxc h1 hl
  unfold Oper.wp execOp
  simp only [ho, resolve, invoke, builtin, Sem.run_bind, Sem.run_pure, Result.andThen_ok, List.map_toArray, List.map_cons, List.map_nil, hs, hx, hr]
  exact h ao cap w' h2 h3 h4

/-- A stream's block, as a part. -/
def stC (P : Nat) (hv : Value) (s : Lk) (fv : Value) (L : Nat) : Comp := ⟨fun w => StB w P hv s fv L, [P]⟩
theorem stC_good (P : Nat) (hv : Value) (s : Lk) (fv : Value) (L : Nat) : (stC P hv s fv L).Good := fun w w' h _ hb => StB.kept h (hb P (by simp [stC]))

theorem All.st_turn {P : Nat} {hv hv' fv fv' : Value} {s s' : Lk} {L L' : Nat} {cs : List Comp} {w w' : World} (h : All (stC P hv s fv L :: cs) w) (hs : StB w' P hv' s' fv' L') (hf : Fr [P] w w') : All (stC P hv' s' fv' L' :: cs) w' :=
  h.turn hf (stC_good _ _ _ _ _) hs (fun k hk => Or.inl hk) (fun k hk => by
    have : k = P := by simpa [stC] using hk
    subst this
    exact hs.lt)

/-- A row that has grown, or was made anew. -/
theorem All.row_grow {v v' : Value} {l l' : List UInt8} {cs : List Comp} {w w' : World} {base : Nat} (h : All (rowC v l :: cs) w) (ho : w'.ownsRow base 5 1 v' l'.length (cellsB l')) (hg : w.grownBy w' v.ownBlock) (hat : v'.ownBlock = v.ownBlock ∨ v'.ownBlock = some w.heap.size) : All (rowC v' l' :: cs) w' := by
  have ho' := owns_zero ho
  refine h.turn ⟨hg.os, hg.tape, hg.output, hg.size, fun k hk hF => hg.block k hk (fun e => hF (by simp [rowC, ← e]))⟩ (rowC_good _ _) ho' (fun k hk => ?_) (fun k hk => ?_)
  · have hk' : v'.ownBlock = some k := by simpa [rowC] using hk
    rcases hat with e | e
    · exact Or.inl (by simp [rowC, ← e, hk'])
    · rw [e] at hk'; simp at hk'; exact Or.inr (by omega)
  · have hk' : v'.ownBlock = some k := by simpa [rowC] using hk
    exact (ho'.lt k hk').2

theorem All.q_grow {v v' : Value} {vs vs' : List Value} {cs : List Comp} {w w' : World} (h : All (qC v vs :: cs) w) (hq : Que w' v' vs') (hg : w.grownBy w' v.ownBlock) (hat : ∀ k, v'.ownBlock = some k → (v.ownBlock = some k ∨ w.heap.size ≤ k) ∧ k < w'.heap.size) : All (qC v' vs' :: cs) w' := by
  refine h.turn ⟨hg.os, hg.tape, hg.output, hg.size, fun k hk hF => hg.block k hk (fun e => hF (by simp [qC, ← e]))⟩ (qC_good _ _) hq (fun k hk => ?_) (fun k hk => ?_)
  · have hk' : v'.ownBlock = some k := by simpa [qC] using hk
    rcases (hat k hk').1 with e | e
    · exact Or.inl (by simp [qC, e])
    · exact Or.inr e
  · have hk' : v'.ownBlock = some k := by simpa [qC] using hk
    exact (hat k hk').2
end Go.Proofs.YthnccpbgccmapabDoor

import Derived.Test.YthjoppgomopkfaaActs
import Derived.Maps.AppendAt
namespace Go.Proofs.Ythjoppgomopkfaa
open Go.RowKit
set_option linter.unusedVariables false

/-- One entry more. -/
theorem app_one {W : World} {K : Nat} {x : Ent} {v : Value} {l : List Ent} {cs : List Comp} (A : All (entC v l :: cs) W) (hK : W.heap[K]? = some (.cells x.cells.toArray 39 (0, 0))) (hlen : (l.length + 1) * 72 ≤ 140737488355328) :
    ∃ ao c w', (Builtin.append_ #[40, 40] 40 #[v, .slice (some ⟨K, 0, none⟩) 1 1]).run Try.prog W = .ok (.slice ao (l.length + 1) c) w' ∧ All (entC (.slice ao (l.length + 1) c) (l ++ [x]) :: cs) w' := by
  obtain ⟨i1, hi1, hz0, hz1, hz2⟩ := info_parts Try.info39
  obtain ⟨v', w', hr, h2, h3, h4, h5⟩ := run_append_own_at (P := Try.prog) W 0 40 40 39 i1 (.agg Ent.zero.cells.toArray) 7 72 Try.underlying40 hi1 hz0 hz1 hz2 rfl (by decide) v l.length (flatE l) A.1.2.1 ⟨K, 0, none⟩ 1 1 x.cells rfl
    (fun j u hu => by rw [Addr.add_lit, Nat.zero_add, cell_at hK]; exact (List.getElem?_toArray ..).trans hu) x.one (by unfold maxLen; omega) hlen (by omega)
  obtain ⟨ao, c, rfl⟩ := owns_form h2
  exact ⟨ao, c, w', hr, A.rowGrow (vs' := flatE (l ++ [x])) (n' := (l ++ [x]).length) (by rw [flatE_snoc, List.length_append]; exact h2) h3 h5⟩

/-- A copy of a list that came in. -/
theorem app_all {W : World} {s : Value} {l : List Ent} (hs : EntsW W s l) (hl : l.length * 72 ≤ 140737488355328) :
    ∃ v' w', (Builtin.append_ #[40, 40] 40 #[.slice none 0 0, s]).run Try.prog W = .ok v' w' ∧ Below W.heap.size W w' ∧ w'.ownsRow W.heap.size 39 7 v' l.length (flatE l) := by
  obtain ⟨ao, c, rfl, hc, hnil, hx⟩ := hs
  obtain ⟨i1, hi1, hz0, hz1, hz2⟩ := info_parts Try.info39
  cases ao with
  | none =>
    obtain ⟨rfl, rfl⟩ := hnil rfl
    exact ⟨.slice none 0 0, W, run_append_owned_none (P := Try.prog) (w := W) 0 40 40 39 i1 7 Try.underlying40 hi1 (.slice none 0 0) 0 [] ⟨rfl, Or.inl ⟨rfl, rfl⟩⟩, Below.refl _ _, ⟨rfl, Or.inl ⟨rfl, rfl⟩⟩⟩
  | some a =>
    have hcells : ∀ j u, (flatE l)[j]? = some u → W.cell? (a.add j) = some u := by
      intro j u hu
      have hj : j < l.length * 7 := by have := (List.getElem?_eq_some_iff.1 hu).1; rwa [flatE_len] at this
      have hd : j / 7 < l.length := by omega
      obtain ⟨g, o, e, hg, hr⟩ := hx (j / 7) _ (List.getElem?_eq_getElem hd)
      cases e
      have h1 := flatE_at (l := l) (i := j / 7) (List.getElem?_eq_getElem hd) (j := j % 7) (by omega)
      rw [show j / 7 * 7 + j % 7 = j by omega, hu] at h1
      have := hr (j % 7) u h1.symm
      rw [Addr.add_lit]
      rw [show o + j / 7 * 7 + j % 7 = o + j by omega] at this
      exact this
    obtain ⟨v', w', hr, h2, h3, h4, h5⟩ := run_append_own_at (P := Try.prog) W W.heap.size 40 40 39 i1 (.agg Ent.zero.cells.toArray) 7 72 Try.underlying40 hi1 hz0 hz1 hz2 rfl (by decide) (.slice none 0 0) 0 [] ⟨rfl, Or.inl ⟨rfl, rfl⟩⟩ a l.length c (flatE l) (flatE_len l) hcells (flatE_one l) (by unfold maxLen; omega) (by omega) (Nat.le_refl _)
    refine ⟨v', w', hr, ⟨h3.os, h3.tape, h3.output, h3.size, fun k hk => h3.block k hk (by simp [Value.ownBlock])⟩, ?_⟩
    rw [Nat.zero_add, List.nil_append] at h2
    exact h2
theorem All.addRow {cs : List Comp} {w w' : World} {v : Value} {l : List Ent} (h : All cs w) (hb : Below w.heap.size w w') (ho : w'.ownsRow w.heap.size 39 7 v l.length (flatE l)) : All (entC v l :: cs) w' := by
  refine h.add (Fr.below hb) (rowC_good _ _ _ _ _) (owns_zero ho) (fun k hk => ?_)
  have hk' : v.ownBlock = some k := by simpa [rowC] using hk
  exact World.ownsRow.lt ho k hk'
/-- A row of one's own is read. -/
theorem EntsW.of_owns {w : World} {base : Nat} {v : Value} {l : List Ent} (h : w.ownsRow base 39 7 v l.length (flatE l)) : EntsW w v l := by
  obtain ⟨ao, c, rfl, hc⟩ := owns7_form h
  refine ⟨ao, c, rfl, hc, ?_, fun i x hx => ?_⟩
  · rintro rfl
    rcases h.2 with ⟨_, e⟩ | ⟨g, cap, cur, e, _⟩
    · rcases h.2 with ⟨e2, _⟩ | ⟨g, cap, cur, e2, _⟩
      · simp only [Value.slice.injEq] at e2
        exact ⟨List.length_eq_zero_iff.1 e, e2.2.2⟩
      · cases e2
    · cases e
  · obtain ⟨g, rfl, hg, hr⟩ := owns7 h hx
    exact ⟨g, 0, rfl, hg, by rw [Nat.zero_add]; exact hr⟩
theorem step_append_own2 {P : Program} {w : World} {ops : Array Oper} {o : Oper} {a : Act} {K : Act → World → Prop} {Q : Exit → Act → World → Prop} {E : Prop} (hgd : o.guard = none) (s x : Operand) (t : TypeId)
    (ho : o.op = .call { callee := .builtin .append, args := #[s, x], argTypes := #[t, t] })
    (base : Nat) (e : TypeId) (i : TypeInfo) (z : Value) (size bytes : Nat) (ht : P.underlying t = some (.slice e)) (hi : P.info? e = some i) (hz : i.zero = some z)
    (hsize : i.size = size) (hby : i.bytes = bytes) (hzs : z.cells.size = size) (hsz : 0 < size)
    (v : Value) (n : Nat) (xs : List Value) (hs : a.eval s = v) (hown : w.ownsRow base e size v n xs)
    (ad : Addr) (m c : Nat) (news : List Value) (hx : a.eval x = .slice (some ad) m c) (hl : news.length = m * size) (hnews : ∀ j u, news[j]? = some u → w.cell? (ad.add j) = some u) (h1 : ∀ u ∈ news, u.oneCell' = true)
    (h63 : n + m ≤ maxLen) (hbytes : (n + m) * bytes ≤ 140737488355328) (hbase : base ≤ w.heap.size)
    (h : ∀ ao cap w', w'.ownsRow base e size (.slice ao (n + m) cap) (n + m) (xs ++ news) → w.grownBy w' v.ownBlock → ((Value.slice ao (n + m) cap).ownBlock = v.ownBlock ∨ (Value.slice ao (n + m) cap).ownBlock = some w.heap.size) → K (a.put o.dst (.slice ao (n + m) cap)) w') :
    if Region.wanted o (yielded ops a.tmps) = true then Oper.wp P o a w K Q else E := by
  have hw : Region.wanted o (yielded ops a.tmps) = true := by simp [Region.wanted, hgd]
  rw [if_pos hw]
  obtain ⟨v', w', hr, h2, h3, h4, h5⟩ := run_append_own_at (P := P) w base t o.type e i z size bytes ht hi hz hsize hby hzs hsz v n xs hown ad m c news hl hnews h1 h63 hbytes hbase
  obtain ⟨ao, cap, hv⟩ := owns_form h2
  subst hv
  unfold Oper.wp execOp
  simp only [ho, resolve, invoke, builtin, Sem.run_bind, Sem.run_pure, Result.andThen_ok, List.map_toArray, List.map_cons, List.map_nil, hs, hx, hr]
  exact h ao cap w' h2 h3 h5

theorem wpList_append_run {P : Program} {w : World} {ops : Array Oper} {rest : List Oper} {o : Oper} {a : Act} {Q : Exit → Act → World → Prop} (hgd : o.guard = none) (s x : Operand) (t : TypeId)
    (ho : o.op = .call { callee := .builtin .append, args := #[s, x], argTypes := #[t, t] }) (v1 v2 v' : Value) (w' : World) (hs : a.eval s = v1) (hx : a.eval x = v2)
    (hr : (Builtin.append_ #[t, t] o.type #[v1, v2]).run P w = .ok v' w') (h : wpList P ops Q rest (a.put o.dst v') w') : wpList P ops Q (o :: rest) a w := by
  refine wpList_plain hgd fun K hK => ?_
  unfold Oper.wp execOp
  simp only [ho, resolve, invoke, builtin, Sem.run_bind, Sem.run_pure, Result.andThen_ok, List.map_toArray, List.map_cons, List.map_nil, hs, hx, hr]
  exact hK _ _ h
/-- An append, in a region that draws. -/
theorem step_append_run {P : Program} {w : World} {ops : Array Oper} {o : Oper} {a : Act} {K : Act → World → Prop} {Q : Exit → Act → World → Prop} {E : Prop} (hgd : o.guard = none) (s x : Operand) (t : TypeId)
    (ho : o.op = .call { callee := .builtin .append, args := #[s, x], argTypes := #[t, t] }) (v1 v2 v' : Value) (w' : World) (hs : a.eval s = v1) (hx : a.eval x = v2)
    (hr : (Builtin.append_ #[t, t] o.type #[v1, v2]).run P w = .ok v' w') (h : K (a.put o.dst v') w') :
    if Region.wanted o (yielded ops a.tmps) = true then Oper.wp P o a w K Q else E := by
  have hw : Region.wanted o (yielded ops a.tmps) = true := by simp [Region.wanted, hgd]
  rw [if_pos hw]
  unfold Oper.wp execOp
  simp only [ho, resolve, invoke, builtin, Sem.run_bind, Sem.run_pure, Result.andThen_ok, List.map_toArray, List.map_cons, List.map_nil, hs, hx, hr]
  exact h
end Go.Proofs.Ythjoppgomopkfaa

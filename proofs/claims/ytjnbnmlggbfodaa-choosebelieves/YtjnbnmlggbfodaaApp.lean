import Derived.Test.YtjnbnmlggbfodaaRReady
import Derived.Maps.AppendAt
namespace Go.Proofs.Ytjnbnmlggbfodaa
open Go.RowKit
set_option linter.unusedVariables false

/-- A row of one's own, whatever its elements' size. -/
def rowC (e : TypeId) (size : Nat) (v : Value) (n : Nat) (vs : List Value) : Comp := ⟨fun w => w.ownsRow 0 e size v n vs, v.ownBlock.toList⟩
theorem owns_keep {w w' : World} {e : TypeId} {size n : Nat} {v : Value} {vs : List Value} (h : w.ownsRow 0 e size v n vs) (hb : ∀ k ∈ v.ownBlock.toList, w'.heap[k]? = w.heap[k]?) : w'.ownsRow 0 e size v n vs :=
  ⟨h.1, by
    rcases h.2 with hn | ⟨g, cap, cur, rfl, hg, hgg, rest⟩
    · exact Or.inl hn
    · exact Or.inr ⟨g, cap, cur, rfl, hg, by rw [hb g (by simp [Value.ownBlock])]; exact hgg, rest⟩⟩
theorem rowC_good (e : TypeId) (size : Nat) (v : Value) (n : Nat) (vs : List Value) : (rowC e size v n vs).Good := fun w w' h hs hb => owns_keep h hb
theorem All.addRow0 {e : TypeId} {size : Nat} {cs : List Comp} {w : World} (h : All cs w) : All (rowC e size (.slice none 0 0) 0 [] :: cs) w :=
  ⟨⟨rowC_good _ _ _ _ _, ⟨by simp, Or.inl ⟨rfl, rfl⟩⟩, fun k hk => by simp [rowC, Value.ownBlock] at hk⟩, fun d hd k hk => by simp [rowC, Value.ownBlock] at hk, h⟩
theorem All.rowGrow {e : TypeId} {size n n' : Nat} {v v' : Value} {vs vs' : List Value} {cs : List Comp} {w w1 : World} {base : Nat} (h : All (rowC e size v n vs :: cs) w) (hown : w1.ownsRow base e size v' n' vs') (hg : w.grownBy w1 v.ownBlock) (hat : v'.ownBlock = v.ownBlock ∨ v'.ownBlock = some w.heap.size) : All (rowC e size v' n' vs' :: cs) w1 := by
  have ho' := owns_zero hown
  refine h.turn ((grown_fr hg).mono (fun k hk => by simpa [rowC] using hk)) (rowC_good _ _ _ _ _) ho' (fun k hk => ?_) (fun k hk => ?_)
  · have hk' : v'.ownBlock = some k := by simpa [rowC] using hk
    rcases hat with e1 | e1
    · exact Or.inl (by simp [rowC, ← e1, hk'])
    · rw [e1] at hk'; simp at hk'; exact Or.inr (by omega)
  · have hk' : v'.ownBlock = some k := by simpa [rowC] using hk
    exact (ho'.lt k hk').2


theorem Try.info27 : (Try.prog.info? 27).map (fun i => (i.zero, i.size, i.bytes)) = some (some (.agg Bal.zero.cells.toArray), 4, 32) := by kernel_rfl
abbrev rowB (v : Value) (l : List Bal) : Comp := rowC 27 4 v l.length (flatB l)
theorem ownB_form {w : World} {base : Nat} {v : Value} {l : List Bal} (h : w.ownsRow base 27 4 v l.length (flatB l)) : ∃ ao c, v = .slice ao l.length c ∧ l.length ≤ c := by
  rcases h.2 with ⟨rfl, e⟩ | ⟨g, cap, cur, rfl, _, hg, hn, hm, hcs, ht⟩
  · exact ⟨none, 0, by rw [e], by omega⟩
  · exact ⟨_, cap, rfl, by omega⟩
theorem BalsAt.of_owns {w : World} {base : Nat} {v : Value} {l : List Bal} (h : w.ownsRow base 27 4 v l.length (flatB l)) : BalsAt w v l := by
  rcases h.2 with ⟨rfl, e⟩ | ⟨g, cap, cur, rfl, _, hg, hn, hm, hcs, ht⟩
  · obtain rfl := List.length_eq_zero_iff.1 e
    exact ⟨none, 0, rfl, by simp, fun _ => ⟨rfl, rfl⟩, fun i x hx => by simp at hx⟩
  · refine ⟨_, cap, rfl, by omega, (fun h => by cases h), fun i x hx => ?_⟩
    have hi := (List.getElem?_eq_some_iff.1 hx).1
    refine ⟨g, 0, rfl, (Array.getElem?_eq_some_iff.1 hg).1, fun j v hv => ?_⟩
    have hj : j < 4 := by have := (List.getElem?_eq_some_iff.1 hv).1; rwa [x.len] at this
    rw [Nat.zero_add, cell_at hg, ← Array.getElem?_toList, ← hv, ← flatB_at hx hj, ← ht, List.getElem?_take, if_pos (by omega)]
/-- The cells of a list that is read, in a row. -/
theorem BalsAt.cells {W : World} {a : Addr} {n c : Nat} {l : List Bal} (hs : BalsAt W (.slice (some a) n c) l) : ∀ j u, (flatB l)[j]? = some u → W.cell? (a.add j) = some u := by
  intro j u hu
  obtain ⟨ao, c', e, _, _, hx⟩ := hs
  simp only [Value.slice.injEq] at e
  obtain ⟨rfl, _, _⟩ := e
  have hj : j < l.length * 4 := by have := (List.getElem?_eq_some_iff.1 hu).1; rwa [flatB_len] at this
  have hd : j / 4 < l.length := by omega
  obtain ⟨g, o, e, hg, hr⟩ := hx (j / 4) _ (List.getElem?_eq_getElem hd)
  cases e
  have h1 := flatB_at (l := l) (i := j / 4) (List.getElem?_eq_getElem hd) (j := j % 4) (by omega)
  rw [show j / 4 * 4 + j % 4 = j by omega, hu] at h1
  have := hr (j % 4) u h1.symm
  rw [Addr.add_lit]
  rw [show o + j / 4 * 4 + j % 4 = o + j by omega] at this
  exact this
/-- A list is added to a row of one's own. -/
theorem appB {W : World} {v s : Value} {l m : List Bal} {cs : List Comp} (A : All (rowB v l :: cs) W) (hs : BalsAt W s m) (hl : (l.length + m.length) * 32 ≤ 140737488355328) :
    ∃ ao c w', (Builtin.append_ #[22, 22] 22 #[v, s]).run Try.prog W = .ok (.slice ao (l ++ m).length c) w' ∧ All (rowB (.slice ao (l ++ m).length c) (l ++ m) :: cs) w' := by
  obtain ⟨i1, hi1, hz0, hz1, hz2⟩ := info_parts Try.info27
  obtain ⟨ao, c, rfl⟩ := hs.form
  cases ao with
  | none =>
    obtain ⟨ao', c', e, hc, hnil, hx⟩ := hs
    simp only [Value.slice.injEq] at e
    obtain ⟨rfl, _, rfl⟩ := e
    obtain ⟨rfl, rfl⟩ := hnil rfl
    obtain ⟨a2, c2, rfl, _⟩ := ownB_form A.1.2.1
    rw [List.append_nil]
    exact ⟨a2, c2, W, run_append_owned_none (P := Try.prog) (w := W) 0 22 22 27 i1 4 Try.underlying22 hi1 (.slice a2 l.length c2) l.length (flatB l) A.1.2.1, A⟩
  | some a =>
    obtain ⟨v', w', hr, h2, h3, h4, h5⟩ := run_append_own_at (P := Try.prog) W 0 22 22 27 i1 (.agg Bal.zero.cells.toArray) 4 32 Try.underlying22 hi1 hz0 hz1 hz2 rfl (by decide) v l.length (flatB l) A.1.2.1 a m.length c (flatB m) (flatB_len m) hs.cells (flatB_one m) (by unfold maxLen; omega) (by omega) (by omega)
    have h2' : w'.ownsRow 0 27 4 v' (l ++ m).length (flatB (l ++ m)) := by rw [flatB_append, List.length_append]; exact h2
    obtain ⟨ao, c, rfl, _⟩ := ownB_form h2'
    exact ⟨ao, c, w', hr, A.rowGrow (vs' := flatB (l ++ m)) (n' := (l ++ m).length) h2' h3 h5⟩
/-- A copy of a list. -/
theorem copyB {W : World} {s : Value} {m : List Bal} {cs : List Comp} (A : All cs W) (hs : BalsAt W s m) (hl : m.length * 32 ≤ 140737488355328) :
    ∃ ao c w', (Builtin.append_ #[22, 22] 22 #[.slice none 0 0, s]).run Try.prog W = .ok (.slice ao m.length c) w' ∧ All (rowB (.slice ao m.length c) m :: cs) w' :=
  appB (l := []) (A.addRow0 (e := 27) (size := 4)) hs (by simpa using hl)
theorem All.readsB {v : Value} {l : List Bal} {cs : List Comp} {W : World} (A : All (rowB v l :: cs) W) : BalsAt W v l := BalsAt.of_owns A.1.2.1

theorem Try.fields27 : Try.prog.underlying 27 = some (.struct (Try.prog.fieldsOf 27)) := by kernel_rfl
theorem Try.held27 : Try.prog.stoodInHeld 27 = false := by kernel_rfl
theorem Try.fieldsOf27 : Try.prog.fieldsOf 27 = #[{ name := "Who", type := 3, offset := 0, embedded := false, tag := "", pkgPath := "", byteOffset := 0 }, { name := "Normal", type := 3, offset := 1, embedded := false, tag := "", pkgPath := "", byteOffset := 8 }, { name := "Op", type := 3, offset := 2, embedded := false, tag := "", pkgPath := "", byteOffset := 16 }, { name := "Commit", type := 3, offset := 3, embedded := false, tag := "", pkgPath := "", byteOffset := 24 }] := by kernel_rfl
theorem eq27 (x y : Bal) (w : World) : (Op.equalIn 10000 27 x.V y.V).run Try.prog w = .ok (decide (x = y)) w := by
  have h := run_equalIn_agg (P := Try.prog) w 9999 27 #[.int .i64 x.who, .int .i64 x.nm, .int .i64 x.op, .int .i64 x.cm] #[.int .i64 y.who, .int .i64 y.nm, .int .i64 y.op, .int .i64 y.cm] Try.fields27 Try.held27
  rw [Try.fieldsOf27] at h
  refine h.trans ?_
  have hi := fun d a b => run_equalIn_int (P := Try.prog) w d 3 .i64 .i64 a b Try.underlying3
  simp only [Op.eqFields]
  go_simp
  have e : (x = y) = (x.who = y.who ∧ x.nm = y.nm ∧ x.op = y.op ∧ x.cm = y.cm) := by
    cases x; cases y; simp
  rw [show decide (x = y) = decide (x.who = y.who ∧ x.nm = y.nm ∧ x.op = y.op ∧ x.cm = y.cm) from decide_eq_decide.2 (iff_of_eq e)]
  by_cases h1 : x.who = y.who
  case neg => simp [h1]
  by_cases h2 : x.nm = y.nm
  case neg => simp [h1, h2]
  by_cases h3 : x.op = y.op
  case neg => simp [h1, h2, h3]
  by_cases h4 : x.cm = y.cm
  case neg => simp [h1, h2, h3, h4]
  simp [h1, h2, h3, h4]

theorem Try.info33 : (Try.prog.info? 33).map (fun i => (i.zero, i.size, i.bytes)) = some (some (.agg Wit.zero.cells.toArray), 3, 24) := by kernel_rfl
abbrev rowW (v : Value) (l : List Wit) : Comp := rowC 33 3 v l.length (flatW l)
theorem ownW_form {w : World} {base : Nat} {v : Value} {l : List Wit} (h : w.ownsRow base 33 3 v l.length (flatW l)) : ∃ ao c, v = .slice ao l.length c ∧ l.length ≤ c := by
  rcases h.2 with ⟨rfl, e⟩ | ⟨g, cap, cur, rfl, _, hg, hn, hm, hcs, ht⟩
  · exact ⟨none, 0, by rw [e], by omega⟩
  · exact ⟨_, cap, rfl, by omega⟩
theorem WitsAt.of_owns {w : World} {base : Nat} {v : Value} {l : List Wit} (h : w.ownsRow base 33 3 v l.length (flatW l)) : WitsAt w v l := by
  rcases h.2 with ⟨rfl, e⟩ | ⟨g, cap, cur, rfl, _, hg, hn, hm, hcs, ht⟩
  · obtain rfl := List.length_eq_zero_iff.1 e
    exact ⟨none, 0, rfl, by simp, fun _ => ⟨rfl, rfl⟩, fun i x hx => by simp at hx⟩
  · refine ⟨_, cap, rfl, by omega, (fun h => by cases h), fun i x hx => ?_⟩
    have hi := (List.getElem?_eq_some_iff.1 hx).1
    refine ⟨g, 0, rfl, (Array.getElem?_eq_some_iff.1 hg).1, fun j v hv => ?_⟩
    have hj : j < 3 := by have := (List.getElem?_eq_some_iff.1 hv).1; rwa [x.len] at this
    rw [Nat.zero_add, cell_at hg, ← Array.getElem?_toList, ← hv, ← flatW_at hx hj, ← ht, List.getElem?_take, if_pos (by omega)]
/-- The cells of a list that is read, in a row. -/
theorem WitsAt.cells {W : World} {a : Addr} {n c : Nat} {l : List Wit} (hs : WitsAt W (.slice (some a) n c) l) : ∀ j u, (flatW l)[j]? = some u → W.cell? (a.add j) = some u := by
  intro j u hu
  obtain ⟨ao, c', e, _, _, hx⟩ := hs
  simp only [Value.slice.injEq] at e
  obtain ⟨rfl, _, _⟩ := e
  have hj : j < l.length * 3 := by have := (List.getElem?_eq_some_iff.1 hu).1; rwa [flatW_len] at this
  have hd : j / 3 < l.length := by omega
  obtain ⟨g, o, e, hg, hr⟩ := hx (j / 3) _ (List.getElem?_eq_getElem hd)
  cases e
  have h1 := flatW_at (l := l) (i := j / 3) (List.getElem?_eq_getElem hd) (j := j % 3) (by omega)
  rw [show j / 3 * 3 + j % 3 = j by omega, hu] at h1
  have := hr (j % 3) u h1.symm
  rw [Addr.add_lit]
  rw [show o + j / 3 * 3 + j % 3 = o + j by omega] at this
  exact this
/-- A list is added to a row of one's own. -/
theorem appW {W : World} {v s : Value} {l m : List Wit} {cs : List Comp} (A : All (rowW v l :: cs) W) (hs : WitsAt W s m) (hl : (l.length + m.length) * 24 ≤ 140737488355328) :
    ∃ ao c w', (Builtin.append_ #[29, 29] 29 #[v, s]).run Try.prog W = .ok (.slice ao (l ++ m).length c) w' ∧ All (rowW (.slice ao (l ++ m).length c) (l ++ m) :: cs) w' := by
  obtain ⟨i1, hi1, hz0, hz1, hz2⟩ := info_parts Try.info33
  obtain ⟨ao, c, rfl⟩ := hs.form
  cases ao with
  | none =>
    obtain ⟨ao', c', e, hc, hnil, hx⟩ := hs
    simp only [Value.slice.injEq] at e
    obtain ⟨rfl, _, rfl⟩ := e
    obtain ⟨rfl, rfl⟩ := hnil rfl
    obtain ⟨a2, c2, rfl, _⟩ := ownW_form A.1.2.1
    rw [List.append_nil]
    exact ⟨a2, c2, W, run_append_owned_none (P := Try.prog) (w := W) 0 29 29 33 i1 3 Try.underlying29 hi1 (.slice a2 l.length c2) l.length (flatW l) A.1.2.1, A⟩
  | some a =>
    obtain ⟨v', w', hr, h2, h3, h4, h5⟩ := run_append_own_at (P := Try.prog) W 0 29 29 33 i1 (.agg Wit.zero.cells.toArray) 3 24 Try.underlying29 hi1 hz0 hz1 hz2 rfl (by decide) v l.length (flatW l) A.1.2.1 a m.length c (flatW m) (flatW_len m) hs.cells (flatW_one m) (by unfold maxLen; omega) (by omega) (by omega)
    have h2' : w'.ownsRow 0 33 3 v' (l ++ m).length (flatW (l ++ m)) := by rw [flatW_append, List.length_append]; exact h2
    obtain ⟨ao, c, rfl, _⟩ := ownW_form h2'
    exact ⟨ao, c, w', hr, A.rowGrow (vs' := flatW (l ++ m)) (n' := (l ++ m).length) h2' h3 h5⟩
/-- A copy of a list. -/
theorem copyW {W : World} {s : Value} {m : List Wit} {cs : List Comp} (A : All cs W) (hs : WitsAt W s m) (hl : m.length * 24 ≤ 140737488355328) :
    ∃ ao c w', (Builtin.append_ #[29, 29] 29 #[.slice none 0 0, s]).run Try.prog W = .ok (.slice ao m.length c) w' ∧ All (rowW (.slice ao m.length c) m :: cs) w' :=
  appW (l := []) (A.addRow0 (e := 33) (size := 3)) hs (by simpa using hl)
theorem All.readsW {v : Value} {l : List Wit} {cs : List Comp} {W : World} (A : All (rowW v l :: cs) W) : WitsAt W v l := WitsAt.of_owns A.1.2.1

theorem Try.fields33 : Try.prog.underlying 33 = some (.struct (Try.prog.fieldsOf 33)) := by kernel_rfl
theorem Try.held33 : Try.prog.stoodInHeld 33 = false := by kernel_rfl
theorem Try.fieldsOf33 : Try.prog.fieldsOf 33 = #[{ name := "Who", type := 3, offset := 0, embedded := false, tag := "", pkgPath := "", byteOffset := 0 }, { name := "View", type := 3, offset := 1, embedded := false, tag := "", pkgPath := "", byteOffset := 8 }, { name := "Has", type := 4, offset := 2, embedded := false, tag := "", pkgPath := "", byteOffset := 16 }] := by kernel_rfl
theorem eq33 (x y : Wit) (w : World) : (Op.equalIn 10000 33 x.V y.V).run Try.prog w = .ok (decide (x = y)) w := by
  have h := run_equalIn_agg (P := Try.prog) w 9999 33 #[.int .i64 x.who, .int .i64 x.vw, .bool x.has] #[.int .i64 y.who, .int .i64 y.vw, .bool y.has] Try.fields33 Try.held33
  rw [Try.fieldsOf33] at h
  refine h.trans ?_
  have hi := fun d a b => run_equalIn_int (P := Try.prog) w d 3 .i64 .i64 a b Try.underlying3
  simp only [Op.eqFields]
  go_simp
  have e : (x = y) = (x.who = y.who ∧ x.vw = y.vw ∧ x.has = y.has) := by
    cases x; cases y; simp
  rw [show decide (x = y) = decide (x.who = y.who ∧ x.vw = y.vw ∧ x.has = y.has) from decide_eq_decide.2 (iff_of_eq e)]
  by_cases h1 : x.who = y.who
  case neg => simp [h1]
  by_cases h2 : x.vw = y.vw
  case neg => simp [h1, h2]
  by_cases h3 : x.has = y.has
  case neg => simp [h1, h2, h3]
  simp [h1, h2, h3]
theorem wpList_append_run {P : Program} {w : World} {ops : Array Oper} {rest : List Oper} {o : Oper} {a : Act} {Q : Exit → Act → World → Prop} (hgd : o.guard = none) (s x : Operand) (t : TypeId)
    (ho : o.op = .call { callee := .builtin .append, args := #[s, x], argTypes := #[t, t] }) (v1 v2 v' : Value) (w' : World) (hs : a.eval s = v1) (hx : a.eval x = v2)
    (hr : (Builtin.append_ #[t, t] o.type #[v1, v2]).run P w = .ok v' w') (h : wpList P ops Q rest (a.put o.dst v') w') : wpList P ops Q (o :: rest) a w := by
  refine wpList_plain hgd fun K hK => ?_
  unfold Oper.wp execOp
  simp only [ho, resolve, invoke, builtin, Sem.run_bind, Sem.run_pure, Result.andThen_ok, List.map_toArray, List.map_cons, List.map_nil, hs, hx, hr]
  exact hK _ _ h
/-- An append, in a region that draws. -/
theorem step_append_run {P : Program} {w : World} {ops : Array Oper} {o : Oper} {a : Act} {K : Act → World → Prop} {Q : Exit → Act → World → Prop} {E : Prop} (hgd : o.guard = none) (s x : Operand) (t : TypeId)
    (ho : o.op = .call { callee := .builtin .append, args := #[s, x], argTypes := #[t, t] }) (v1 v2 v' : Value) (w' : World) (hs : a.eval s = v1) (hx : a.eval x = v2)
    (hr : (Builtin.append_ #[t, t] o.type #[v1, v2]).run P w = .ok v' w') (h : K (a.put o.dst v') w') :
    if Region.wanted o (yielded ops a.tmps) = true then Oper.wp P o a w K Q else E := by
  have hw : Region.wanted o (yielded ops a.tmps) = true := by simp [Region.wanted, hgd]
  rw [if_pos hw]
  unfold Oper.wp execOp
  simp only [ho, resolve, invoke, builtin, Sem.run_bind, Sem.run_pure, Result.andThen_ok, List.map_toArray, List.map_cons, List.map_nil, hs, hx, hr]
  exact h
end Go.Proofs.Ytjnbnmlggbfodaa

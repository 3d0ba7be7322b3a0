import Derived.Test.YtkaigmoeagjjgaaWt2
namespace Go.Proofs.Ytkaigmoeagjjgaa
open Go.RowKit
set_option linter.unusedVariables false

/-! histories that are read -/
def EvAt (w : World) (b off : Nat) (e : Ev) : Prop := e.us.length = 33 ∧ (∀ j u, e.us[j]? = some u → w.cell? ⟨b, off + j, none⟩ = some u) ∧ e.us[0]? = some (.int .i64 e.k) ∧ e.us[1]? = some (.int .i64 e.a) ∧ e.us[2]? = some (.int .i64 e.n) ∧ ∀ u ∈ e.us, u.oneCell' = true
def EvsAt (w : World) (v : Value) (r : List Ev) : Prop := ∃ o c, v = .slice o r.length c ∧ r.length ≤ c ∧ (r = [] ∨ ∃ b off, o = some ⟨b, off, none⟩ ∧ b < w.heap.size ∧ ∀ j e, r[j]? = some e → EvAt w b (off + j * 33) e)
def HistAt (w : World) (v : Value) (H : List (List Ev)) : Prop := ∃ o c, v = .slice o H.length c ∧ H.length ≤ c ∧ (H = [] ∨ ∃ b off, o = some ⟨b, off, none⟩ ∧ b < w.heap.size ∧ ∀ i r, H[i]? = some r → ∃ u, w.cell? ⟨b, off + i, none⟩ = some u ∧ EvsAt w u r)
theorem EvAt.later {w w' : World} {b off : Nat} {e : Ev} (h : EvAt w b off e) (hb : b < w.heap.size) (hl : Below w.heap.size w w') : EvAt w' b off e :=
  ⟨h.1, fun j u hu => (hl.cell (p := ⟨b, off + j, none⟩) hb).trans (h.2.1 j u hu), h.2.2⟩
theorem EvsAt.later {w w' : World} {v : Value} {r : List Ev} (h : EvsAt w v r) (hl : Below w.heap.size w w') : EvsAt w' v r := by
  obtain ⟨o, c, rfl, hc, h⟩ := h
  refine ⟨o, c, rfl, hc, h.imp id ?_⟩
  rintro ⟨b, off, rfl, hb, h⟩
  exact ⟨b, off, rfl, Nat.lt_of_lt_of_le hb hl.size, fun j e he => (h j e he).later hb hl⟩
theorem HistAt.later {w w' : World} {v : Value} {H : List (List Ev)} (h : HistAt w v H) (hl : Below w.heap.size w w') : HistAt w' v H := by
  obtain ⟨o, c, rfl, hc, h⟩ := h
  refine ⟨o, c, rfl, hc, h.imp id ?_⟩
  rintro ⟨b, off, rfl, hb, h⟩
  refine ⟨b, off, rfl, Nat.lt_of_lt_of_le hb hl.size, fun i r hr => ?_⟩
  obtain ⟨u, hu, hr⟩ := h i r hr
  exact ⟨u, (hl.cell (p := ⟨b, off + i, none⟩) hb).trans hu, hr.later hl⟩
def tot (H : List (List Ev)) : Nat := (H.map List.length).sum
theorem tot_snoc (H : List (List Ev)) (r : List Ev) : tot (H ++ [r]) = tot H + r.length := by simp [tot]
theorem tot_take (H : List (List Ev)) (i : Nat) : tot (H.take i) ≤ tot H := by
  have h := congrArg tot (List.take_append_drop i H)
  unfold tot at h ⊢
  rw [List.map_append, List.sum_append] at h
  omega
theorem wall_len (H : List (List Ev)) : (wall H).length ≤ tot H := by
  suffices ∀ n (H : List (List Ev)), H.length = n → (wall H).length ≤ tot H from this _ H rfl
  intro n
  induction n with
  | zero => intro H h; rw [List.length_eq_zero_iff.1 h]; exact Nat.le_refl _
  | succ n ih =>
    intro H h
    have hne : H ≠ [] := by intro e; rw [e] at h; simp at h
    rw [← List.dropLast_concat_getLast hne, wall_snoc, tot_snoc]
    have h1 := wrow_len (H.getLast hne) (H.dropLast.length : Int) (wall H.dropLast)
    have h2 := ih H.dropLast (by rw [List.length_dropLast]; omega)
    omega
theorem take_snocG {α : Type} {l : List α} {i : Nat} {x : α} (h : l[i]? = some x) : l.take (i + 1) = l.take i ++ [x] := by rw [List.take_add_one, h]; rfl

/-! when they began -/
def Beg (l : List Sp) (s : Int) : Prop := ∀ x ∈ l, 0 ≤ x.b ∧ x.b ≤ s
theorem Beg.mono {l : List Sp} {s t : Int} (h : Beg l s) (hst : s ≤ t) : Beg l t := fun x hx => ⟨(h x hx).1, by have := (h x hx).2; omega⟩
theorem Beg.step {l : List Sp} {s : Int} (h : Beg l s) (h0 : 0 ≤ s) (k a n : Int) : Beg (wstep l k a n s) s := by
  unfold wstep
  split
  · split
    · intro x hx
      rcases List.mem_append.1 hx with hx | hx
      · exact h x hx
      · rw [List.mem_singleton] at hx; subst hx; exact ⟨h0, Int.le_refl _⟩
    · exact h
  · split
    · split
      · exact h
      · split
        · rename_i i _ x hx
          intro y hy
          rcases List.mem_or_eq_of_mem_set hy with hy | rfl
          · exact h y hy
          · exact h x (List.mem_of_getElem? hx)
        · exact h
    · exact h
theorem Beg.row {s : Int} (h0 : 0 ≤ s) : ∀ (r : List Ev) {l : List Sp}, Beg l s → Beg (wrow l r s) s
  | [], l, h => h
  | e :: r, l, h => by
    have : wrow l (e :: r) s = wrow (wstep l e.k e.a e.n s) r s := rfl
    rw [this]
    exact Beg.row h0 r (h.step h0 _ _ _)

/-! the spans' row -/
theorem Try.info84 : (Try.prog.info? 84).map (fun i => (i.zero, i.size, i.bytes)) = some (some (.agg #[.int .i64 0, .int .i64 0, .int .i64 0, .int .i64 0, .bool false]), 5, 40) := by kernel_rfl
theorem own_emptyP {g : Nat} {cs : List Comp} {w : World} (h : All (blkC g [] 84 :: cs) w) : All (rowC 84 5 (.slice (some ⟨g, 0, none⟩) 0 0) 0 (flatP []) :: cs) w := by
  refine ⟨⟨rowC_good _ _ _ _ _, ⟨by simp [flatP], Or.inr ⟨g, 0, #[], rfl, Nat.zero_le _, h.1.2.1, Nat.le_refl _, Nat.zero_le _, by simp, by simp [flatP]⟩⟩, fun k hk => ?_⟩, fun d hd k hk => ?_, h.2.2⟩
  · have : k = g := by simpa [rowC, Value.ownBlock, eq_comm] using hk
    exact h.1.2.2 k (by simp [blkC, this])
  · have : k = g := by simpa [rowC, Value.ownBlock, eq_comm] using hk
    exact h.2.1 d hd k (by simp [blkC, this])
theorem Sp.one (x : Sp) : ∀ u ∈ x.cells, u.oneCell' = true := by
  intro u hu
  simp only [Sp.cells, List.mem_cons, List.not_mem_nil, or_false] at hu
  rcases hu with rfl | rfl | rfl | rfl | rfl <;> rfl
theorem wpList_appP {w : World} {ops : Array Oper} {rest : List Oper} {o : Oper} {a : Act} {Q : Exit → Act → World → Prop} (hgd : o.guard = none) {s y : Operand}
    (ho : o.op = .call { callee := .builtin .append, args := #[s, y], argTypes := #[81, 81] })
    {v : Value} {l : List Sp} {x : Sp} {K : Nat} {cs : List Comp} (hA : All (rowC 84 5 v l.length (flatP l) :: cs) w) (hs : a.eval s = v) (hx : a.eval y = .slice (some ⟨K, 0, none⟩) 1 1) (hK : w.heap[K]? = some (.cells x.cells.toArray 84 (0, 0))) (hb : (l.length + 1) * 40 ≤ 140737488355328)
    (h : ∀ oo oc w', All (rowC 84 5 (.slice oo (l.length + 1) oc) (l.length + 1) (flatP (l ++ [x])) :: cs) w' → wpList Try.prog ops Q rest (a.put o.dst (.slice oo (l.length + 1) oc)) w') : wpList Try.prog ops Q (o :: rest) a w := by
  obtain ⟨i0, hi, hz0, hz1, hz2⟩ := info_parts Try.info84
  refine wpList_append_own_at w hgd s y 81 ho 0 84 i0 _ 5 40 Try.underlying81 hi hz0 hz1 hz2 rfl (by decide) v l.length (flatP l) hs hA.1.2.1 ⟨K, 0, none⟩ 1 1 x.cells hx (by simp [Sp.cells]) (fun j u hu => by rw [Addr.add_lit, Nat.zero_add, cell_at hK]; exact (List.getElem?_toArray ..).trans hu) x.one (by unfold maxLen; omega) hb (Nat.zero_le _) fun v' w' h1 h2 _ h3 => ?_
  obtain ⟨oo, oc, rfl⟩ := owns_form h1
  exact h oo oc w' (hA.rowGrow (by rw [flatP_snoc]; exact h1) h2 h3)
end Go.Proofs.Ytkaigmoeagjjgaa

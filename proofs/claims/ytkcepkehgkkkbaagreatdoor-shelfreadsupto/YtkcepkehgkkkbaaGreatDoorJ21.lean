import Derived.Test.YtkcepkehgkkkbaaGreatDoorJ18
import Derived.Laws.CopyOwn
import Derived.Deep.DeepCutAuto
namespace Go.Proofs.YtkcepkehgkkkbaaGreatDoor
open Go.RowKit
set_option linter.unusedVariables false

/-- append: in place, or into a new row while the old one stays. -/
theorem wpList_append_two {P : Program} (w : World) {ops : Array Oper} {rest : List Oper} {o : Oper} {a : Act} {Q : Exit → Act → World → Prop} (hgd : o.guard = none) (s x : Operand) (t : TypeId)
    (ho : o.op = .call { callee := .builtin .append, args := #[s, x], argTypes := #[t, t] })
    (e : TypeId) (i : TypeInfo) (z : Value) (size bytes : Nat) (ht : P.underlying t = some (.slice e)) (hi : P.info? e = some i) (hz : i.zero = some z)
    (hsize : i.size = size) (hby : i.bytes = bytes) (hzs : z.cells.size = size) (hsz : 0 < size)
    (v : Value) (n : Nat) (xs : List Value) (hs : a.eval s = v) (hown : w.ownsRow 0 e size v n xs)
    (ad : Addr) (m c : Nat) (news : List Value) (hx : a.eval x = .slice (some ad) m c) (hl : news.length = m * size) (hnews : ∀ j u, news[j]? = some u → w.cell? (ad.add j) = some u) (h1 : ∀ u ∈ news, u.oneCell' = true)
    (hm : 0 < m) (h63 : n + m ≤ maxLen) (hbytes : (n + m) * bytes ≤ 140737488355328)
    (h : ∀ g cap w', w'.ownsRow 0 e size (.slice (some ⟨g, 0, none⟩) (n + m) cap) (n + m) (xs ++ news) → w.grownBy w' v.ownBlock → (v.ownBlock = some g ∨ (g = w.heap.size ∧ Below w.heap.size w w')) → wpList P ops Q rest (a.put o.dst (.slice (some ⟨g, 0, none⟩) (n + m) cap)) w') : wpList P ops Q (o :: rest) a w := by
  refine wpList_plain hgd fun K hK => ?_
  obtain ⟨v', w', hr, h2, h3, h4, h5⟩ := run_append_own_at (P := P) w 0 t o.type e i z size bytes ht hi hz hsize hby hzs hsz v n xs hown ad m c news hl hnews h1 h63 hbytes (by omega)
  subst hsize
  subst hby
  have hkey : ∃ g cap, v' = .slice (some ⟨g, 0, none⟩) (n + m) cap ∧ (v.ownBlock = some g ∨ (g = w.heap.size ∧ Below w.heap.size w w')) := by
    rcases h2.2 with ⟨_, e0⟩ | ⟨g, cap, cur, e1, _⟩
    · omega
    · refine ⟨g, cap, e1, ?_⟩
      rcases hown.2 with ⟨rfl, rfl⟩ | ⟨g0, cap0, cur0, rfl, _, hg0, hn0, _, hcs0, htake0⟩
      · right
        have hr2 := run_append_nil (P := P) w t o.type e i z ht hi hz ad m c news hl hnews hm (by simp only [maxLen] at h63; omega) (by have hb := hbytes; simp only [Nat.zero_add] at hb; omega)
        rw [hr] at hr2
        simp only [Result.ok.injEq] at hr2
        obtain ⟨rfl, rfl⟩ := hr2
        simp only [Value.slice.injEq, Option.some.injEq, Addr.mk.injEq, and_true] at e1
        exact ⟨e1.1.symm, ((Below.refl _ _).drew).alloc (Nat.le_refl _) _⟩
      · by_cases hroom : n + m ≤ cap0
        · left
          rcases h5 with e5 | e5
          · rw [e1] at e5; exact e5.symm
          · exfalso
            obtain ⟨w2, hr2, _, _⟩ := run_append_fits (P := P) w 0 t o.type e i i.size ht hi rfl g0 n cap0 xs hown ad m c news hl hnews h1 hroom
            rw [hr] at hr2
            simp only [Result.ok.injEq] at hr2
            rw [hr2.1] at e5
            simp [Value.ownBlock] at e5
            have := (Array.getElem?_eq_some_iff.1 hg0).1
            omega
        · right
          have hr2 := run_append_grow (P := P) w t o.type e i z ht hi hz ⟨g0, 0, none⟩ n cap0 xs hown.1 (hown.cells (g := g0) rfl) ad m c news hl hnews (by omega) (by simp only [maxLen] at h63; omega) (growslice_fits (by omega) hbytes)
          rw [hr] at hr2
          simp only [Result.ok.injEq] at hr2
          obtain ⟨rfl, rfl⟩ := hr2
          simp only [Value.slice.injEq, Option.some.injEq, Addr.mk.injEq, and_true] at e1
          exact ⟨e1.1.symm, ((Below.refl _ _).drew).alloc (Nat.le_refl _) _⟩
  obtain ⟨g, cap, rfl, hk⟩ := hkey
  unfold Oper.wp execOp
  simp only [ho, resolve, invoke, builtin, Sem.run_bind, Sem.run_pure, Result.andThen_ok, List.map_toArray, List.map_cons, List.map_nil, hs, hx, hr]
  exact hK _ _ (h g cap w' h2 h3 hk)


theorem All.weaken {c c' : Comp} {cs : List Comp} {w : World} (h : All (c :: cs) w) (hg : c'.Good) (hh : c.holds w → c'.holds w) (hf : ∀ k ∈ c'.fp, k ∈ c.fp) : All (c' :: cs) w :=
  ⟨⟨hg, hh h.1.2.1, fun k hk => h.1.2.2 k (hf k hk)⟩, fun d hd k hk => h.2.1 d hd k (hf k hk), h.2.2⟩

theorem owns_off {w : World} {base : Nat} {e : TypeId} {size : Nat} {v : Value} {n : Nat} {xs : List Value} (h : w.ownsRow base e size v n xs) : ∀ ga o sp n' c, v = .slice (some ⟨ga, o, sp⟩) n' c → o = 0 ∧ sp = none := by
  intro ga o sp n' c hv
  rcases h.2 with ⟨rfl, _⟩ | ⟨g, cap, cur, rfl, _⟩
  · simp at hv
  · simp only [Value.slice.injEq, Option.some.injEq, Addr.mk.injEq] at hv
    exact ⟨hv.1.2.1.symm, hv.1.2.2.symm⟩

/-- A list that is read: its cells. -/
def RdV (w : World) (v : Value) (xs : List Value) : Prop := ∃ ao c, v = .slice ao xs.length c ∧ ∀ j u, xs[j]? = some u → ∃ g, ao = some ⟨g, 0, none⟩ ∧ w.cell? ⟨g, j, none⟩ = some u

theorem RdV.of_owns {w : World} {base : Nat} {e : TypeId} {v : Value} {xs : List Value} (h : w.ownsRow base e 1 v xs.length xs) : RdV w v xs := by
  rcases h.2 with ⟨rfl, h0⟩ | ⟨g, cap, cur, rfl, hrest⟩
  · refine ⟨none, 0, by rw [h0], fun j u hu => ?_⟩
    have := (List.getElem?_eq_some_iff.1 hu).1
    omega
  · exact ⟨_, cap, rfl, fun j u hu => ⟨g, rfl, by simpa [Addr.add_lit] using World.ownsRow.cells h (g := g) rfl j u hu⟩⟩

theorem cell_same {w w' : World} {g j : Nat} (h : w'.heap[g]? = w.heap[g]?) : w'.cell? ⟨g, j, none⟩ = w.cell? ⟨g, j, none⟩ := by
  simp only [World.cell?, h]

theorem RdV.kept {w w' : World} {v : Value} {xs : List Value} (h : RdV w v xs) (hb : ∀ k, v.ownBlock = some k → w'.heap[k]? = w.heap[k]?) : RdV w' v xs := by
  obtain ⟨ao, c, rfl, hc⟩ := h
  refine ⟨ao, c, rfl, fun j u hu => ?_⟩
  obtain ⟨g, rfl, hg⟩ := hc j u hu
  exact ⟨g, rfl, by rw [cell_same (hb g rfl)]; exact hg⟩

/-- A list that is one's own. -/
abbrev En := Value × List Value
def eC (t : TypeId) (e : En) : Comp := ownC t e.1 e.2
/-- Two lists that are read. -/
def pC (p : En × En) : Comp := ⟨fun w => RdV w p.1.1 p.1.2 ∧ RdV w p.2.1 p.2.2, p.1.1.ownBlock.toList ++ p.2.1.ownBlock.toList⟩
theorem pC_good (p : En × En) : (pC p).Good := by
  intro w w' h hs hb
  exact ⟨h.1.kept (fun k hk => hb k (by simp [pC, hk])), h.2.kept (fun k hk => hb k (by simp [pC, hk]))⟩

/-- A list that grows: as it was, and as it is. -/
def extC (t : TypeId) (a : Value) (la : List Value) (lv : Value) (ll : List Value) : Comp := ⟨fun w => RdV w a la ∧ w.ownsRow 0 t 1 lv ll.length ll ∧ ∃ s, ll = la ++ s, a.ownBlock.toList ++ lv.ownBlock.toList⟩

theorem extC_good (t : TypeId) (a : Value) (la : List Value) (lv : Value) (ll : List Value) : (extC t a la lv ll).Good := by
  intro w w' h hs hb
  exact ⟨h.1.kept (fun k hk => hb k (by simp [extC, hk])), ownC_good t lv ll w w' h.2.1 hs (fun k hk => hb k (List.mem_append.2 (Or.inr hk))), h.2.2⟩

theorem All.ext_begin {t : TypeId} {a : Value} {la : List Value} {cs : List Comp} {w : World} (h : All (ownC t a la :: cs) w) : All (extC t a la a la :: cs) w :=
  h.weaken (extC_good _ _ _ _ _) (fun hh => ⟨RdV.of_owns hh, hh, [], by simp⟩) (fun k hk => by
    rcases List.mem_append.1 hk with hk | hk <;> exact hk)

theorem All.ext_end {t : TypeId} {a lv : Value} {la ll : List Value} {cs : List Comp} {w : World} (h : All (extC t a la lv ll :: cs) w) : All (pC ((a, la), (lv, ll)) :: cs) w :=
  h.weaken (pC_good _) (fun hh => ⟨hh.1, RdV.of_owns hh.2.1⟩) (fun k hk => hk)

/-- One more. -/
theorem All.ext_append {t : TypeId} {a lv x : Value} {la ll : List Value} {cs : List Comp} {w w1 : World} {g cap : Nat} (h : All (extC t a la lv ll :: cs) w) (hown : w1.ownsRow 0 t 1 (.slice (some ⟨g, 0, none⟩) (ll.length + 1) cap) (ll.length + 1) (ll ++ [x])) (hg : w.grownBy w1 lv.ownBlock) (hat : lv.ownBlock = some g ∨ (g = w.heap.size ∧ Below w.heap.size w w1)) :
    All (extC t a la (.slice (some ⟨g, 0, none⟩) (ll.length + 1) cap) (ll ++ [x]) :: cs) w1 := by
  obtain ⟨hra, hro, s, hs⟩ := h.1.2.1
  have hown' : w1.ownsRow 0 t 1 (.slice (some ⟨g, 0, none⟩) (ll.length + 1) cap) (ll ++ [x]).length (ll ++ [x]) := by
    rw [List.length_append]; exact hown
  have hf : Fr (extC t a la lv ll).fp w w1 := (grown_fr hg).mono (fun k hk => List.mem_append.2 (Or.inr hk))
  have hra1 : RdV w1 a la := by
    rcases hat with e | ⟨e, hb⟩
    · by_cases hab : a.ownBlock = some g
      · obtain ⟨ao, c, rfl, hcell⟩ := hra
        refine ⟨ao, c, rfl, fun j u hu => ?_⟩
        obtain ⟨ga, rfl, hga⟩ := hcell j u hu
        have hgg : ga = g := by simpa [Value.ownBlock] using hab
        subst hgg
        have hj := (List.getElem?_eq_some_iff.1 hu).1
        have q := World.ownsRow.cells hown' (g := ga) rfl j u (by
          rw [hs, List.append_assoc, List.getElem?_append_left hj]
          exact hu)
        exact ⟨ga, rfl, by simpa [Addr.add_lit] using q⟩
      · refine hra.kept (fun k hk => hg.block k (h.1.2.2 k (by simp [extC, hk])) (fun x => hab ?_))
        rw [e] at x
        rw [hk, x]
    · exact hra.kept (fun k hk => hb.block k (h.1.2.2 k (by simp [extC, hk])))
  refine h.turn hf (extC_good _ _ _ _ _) ⟨hra1, hown', s ++ [x], by rw [hs, List.append_assoc]⟩ (fun k hk => ?_) (fun k hk => ?_)
  · rcases List.mem_append.1 hk with hk | hk
    · exact Or.inl (List.mem_append.2 (Or.inl hk))
    · have hkg : k = g := by simpa [Value.ownBlock, eq_comm] using hk
      rcases hat with e | ⟨e, _⟩
      · exact Or.inl (List.mem_append.2 (Or.inr (by rw [e, hkg]; simp)))
      · exact Or.inr (by omega)
  · rcases List.mem_append.1 hk with hk | hk
    · exact Nat.lt_of_lt_of_le (h.1.2.2 k (List.mem_append.2 (Or.inl hk))) hg.size
    · have hkg : k = g := by simpa [Value.ownBlock, eq_comm] using hk
      rw [hkg]
      exact (World.ownsRow.lt hown' g rfl).2

theorem All.setOwn {t : TypeId} {g n cap k : Nat} {us : List Value} {u : Value} {cs : List Comp} {w : World} (h : All (ownC t (.slice (some ⟨g, 0, none⟩) n cap) us :: cs) w) : All (ownC t (.slice (some ⟨g, 0, none⟩) n cap) (us.set k u) :: cs) (w.setCell ⟨g, k, none⟩ u) := by
  have ho : w.ownsRow 0 t 1 (.slice (some ⟨g, 0, none⟩) n cap) us.length us := h.1.2.1
  obtain ⟨hn, _⟩ := owns_len ho
  subst hn
  have hs := (World.ownsRow.stored ho k u).1
  refine h.turn (Fr.setCell w g k _) (ownC_good _ _ _) ?_ (Gr.refl _ _) (fun k' hk' => ?_)
  · show World.ownsRow _ 0 t 1 _ (us.set k u).length _
    rw [List.length_set]; exact hs
  · have := h.1.2.2 k' hk'
    simpa [World.setCell] using this

theorem map_mid {α : Type} (f : α → Comp) {L : List α} {i : Nat} {e : α} (h : L[i]? = some e) (X cs : List Comp) (e' : α) :
    ((X ++ ((L.set i e').map f ++ cs)).Perm (f e' :: (X ++ ((L.take i ++ L.drop (i + 1)).map f ++ cs)))) ∧ ((X ++ (L.map f ++ cs)).Perm (f e :: (X ++ ((L.take i ++ L.drop (i + 1)).map f ++ cs)))) := by
  have hi := (List.getElem?_eq_some_iff.1 h).1
  have e1 : L.set i e' = L.take i ++ e' :: L.drop (i + 1) := List.set_eq_take_append_cons_drop ▸ (by simp [hi])
  have e2 : L = L.take i ++ e :: L.drop (i + 1) := by
    have := (List.getElem?_eq_some_iff.1 h).2
    rw [← this]
    simp
  have key : ∀ y : α, (X ++ ((L.take i ++ y :: L.drop (i + 1)).map f ++ cs)).Perm (f y :: (X ++ ((L.take i ++ L.drop (i + 1)).map f ++ cs))) := fun y => by
    have := List.perm_middle (a := f y) (l₁ := X ++ (L.take i).map f) (l₂ := (L.drop (i + 1)).map f ++ cs)
    simpa [List.append_assoc] using this
  refine ⟨by rw [e1]; exact key e', ?_⟩
  have := key e
  rw [← e2] at this
  exact this

/-- A cell of one of the lists is written. -/
theorem All.setAt {t : TypeId} {X cs : List Comp} {L : List En} {i k g n cap : Nat} {us : List Value} {w : World} (h : All (X ++ (L.map (eC t) ++ cs)) w) (hi : L[i]? = some (.slice (some ⟨g, 0, none⟩) n cap, us)) (u : Value) : All (X ++ ((L.set i (.slice (some ⟨g, 0, none⟩) n cap, us.set k u)).map (eC t) ++ cs)) (w.setCell ⟨g, k, none⟩ u) := by
  obtain ⟨p1, p2⟩ := map_mid (eC t) hi X cs (.slice (some ⟨g, 0, none⟩) n cap, us.set k u)
  have h1 := h.perm p2
  exact (All.setOwn (k := k) (u := u) h1).perm p1.symm

theorem All.at {t : TypeId} {X cs : List Comp} {L : List En} {i : Nat} {e : En} {w : World} (h : All (X ++ (L.map (eC t) ++ cs)) w) (hi : L[i]? = some e) : w.ownsRow 0 t 1 e.1 e.2.length e.2 :=
  (h.mem (c := eC t e) (List.mem_append_right _ (List.mem_append_left _ (List.mem_map_of_mem (List.mem_of_getElem? hi))))).2.1
end Go.Proofs.YtkcepkehgkkkbaaGreatDoor

namespace Go.Proofs.YtkcepkehgkkkbaaGreatDoor
open Go.RowKit
set_option linter.unusedVariables false

/-- Pieces in another order. -/
theorem perm_by (n : Nat) (ls : List (List Comp)) (σ : List Nat) (hn : ls.length = n) (h : σ.Perm (List.range n)) : ls.flatten.Perm (σ.map fun i => ls.getD i []).flatten := by
  subst hn
  have h1 : ls = (List.range ls.length).map fun i => ls.getD i [] := by
    refine List.ext_getElem (by simp) fun i h1 h2 => ?_
    simp [List.getD, h1]
  have h2 := (h.map fun i => ls.getD i []).flatten
  rw [← h1] at h2
  exact h2.symm

end Go.Proofs.YtkcepkehgkkkbaaGreatDoor

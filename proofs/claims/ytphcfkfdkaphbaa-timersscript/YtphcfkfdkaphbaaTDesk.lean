import Derived.Test.YtphcfkfdkaphbaaTwin
import Derived.Test.YtphcfkfdkaphbaaPat
namespace Go.Proofs.Ytphcfkfdkaphbaa
open Go.RowKit
set_option linter.unusedVariables false

theorem perm_by (n : Nat) (ls : List (List Comp)) (σ : List Nat) (hn : ls.length = n) (h : σ.Perm (List.range n)) : ls.flatten.Perm (σ.map fun i => ls.getD i []).flatten := by
  subst hn
  have h1 : ls = (List.range ls.length).map fun i => ls.getD i [] := by
    refine List.ext_getElem (by simp) fun i h1 h2 => ?_
    simp [List.getD, h1]
  have h2 := (h.map fun i => ls.getD i []).flatten
  rw [← h1] at h2
  exact h2.symm
theorem All.cab {a b c : Comp} {cs : List Comp} {w : World} (h : All (a :: b :: c :: cs) w) : All (c :: a :: b :: cs) w :=
  h.perm ((List.Perm.cons _ (List.Perm.swap _ _ _)).trans (List.Perm.swap _ _ _))
theorem All.bca {a b c : Comp} {cs : List Comp} {w : World} (h : All (a :: b :: c :: cs) w) : All (b :: c :: a :: cs) w :=
  h.perm ((List.Perm.swap _ _ _).trans (List.Perm.cons _ (List.Perm.swap _ _ _)))
theorem All.sublist {cs ds : List Comp} {w : World} (h : All cs w) (hs : ds.Sublist cs) : All ds w := by
  induction hs with
  | slnil => exact h
  | cons c _ ih => exact ih h.tail
  | cons_cons c hs ih => exact ⟨h.1, fun d hd => h.2.1 d (hs.subset hd), ih h.2.2⟩

/-- A list that was handed out, and its mark. -/
structure Mk where
  a : Option Addr
  m : Nat
  c : Nat
  s : ByteArray
def Mk.cells (x : Mk) : List Value := [.slice x.a x.m x.c, .string x.s]
def Mk.comp (x : Mk) : Comp := ownC 9 (.slice x.a x.m x.c) (List.replicate x.m (.string x.s))
def flatM (l : List Mk) : List Value := l.flatMap Mk.cells
def markC (v : Value) (l : List Mk) : Comp := rowC 96 2 v l.length (flatM l)
theorem flatM_snoc (l : List Mk) (e : Mk) : flatM (l ++ [e]) = flatM l ++ e.cells := by simp [flatM]
theorem flatM_len (l : List Mk) : (flatM l).length = l.length * 2 := by
  induction l with
  | nil => rfl
  | cons x l ih => simp only [flatM, List.flatMap_cons, List.length_append, List.length_cons] at ih ⊢; rw [ih]; simp [Mk.cells]; omega
theorem flatM_at {l : List Mk} {i : Nat} {x : Mk} (h : l[i]? = some x) {j : Nat} (hj : j < 2) : (flatM l)[i * 2 + j]? = x.cells[j]? := by
  induction l generalizing i with
  | nil => simp at h
  | cons y l ih =>
    rw [flatM, List.flatMap_cons]
    cases i with
    | zero =>
      simp only [List.getElem?_cons_zero, Option.some.injEq] at h
      subst h
      rw [Nat.zero_mul, Nat.zero_add, List.getElem?_append_left (by simpa [Mk.cells] using hj)]
    | succ i =>
      rw [List.getElem?_append_right (by simp [Mk.cells]; omega)]
      have := ih (i := i) (by simpa using h)
      rw [← this]
      simp only [Mk.cells, List.length_cons, List.length_nil, flatM]
      congr 1
      omega

/-- A table of the program, and the document's beside it. -/
structure Tq where
  P : Nat
  b : Nat
  R : Nat
  D : DataW Unit
  v : Value
  ts : List Tm
def Tq.parts (t : Tq) : List Comp := [tabS t.P t.b (Maps.size t.D) t.D, refC t.R t.v t.ts]
def Tq.ok (t : Tq) : Prop := CpS t.D t.ts ∧ t.ts.length ≤ 32
def pA (T : List Tq) : List Value := T.map fun t => .pointer (some ⟨t.P, 0, none⟩)
def pB (T : List Tq) : List Value := T.map fun t => .pointer (some ⟨t.R, 0, none⟩)
theorem pA_len (T : List Tq) : (pA T).length = T.length := by simp [pA]
theorem pB_len (T : List Tq) : (pB T).length = T.length := by simp [pB]
def hdL (D : Nat) (va vb vm : Value) (ga gb : List Value) (M : List Mk) : List Comp := [blkC D [va, vb, vm] 34, ownC 24 va ga, ownC 27 vb gb, markC vm M] ++ M.map Mk.comp
def deskL (D : Nat) (va vb vm : Value) (T : List Tq) (M : List Mk) : List Comp := hdL D va vb vm (pA T) (pB T) M ++ T.flatMap Tq.parts
def OT (T : List Tq) (k : Nat) : List Comp := (T.take k ++ T.drop (k + 1)).flatMap Tq.parts
structure DF (T : List Tq) (M : List Mk) (i : Nat) : Prop where
  ok : ∀ t ∈ T, t.ok
  one : 1 ≤ T.length
  four : T.length ≤ 4
  few : M.length ≤ i
  short : ∀ x ∈ M, x.m ≤ 35

theorem flat_mid {T : List Tq} {i : Nat} {r : Tq} (h : T[i]? = some r) (X Z : List Comp) (r' : Tq) :
    (X ++ ((T.set i r').flatMap Tq.parts ++ Z)).Perm (r'.parts ++ (X ++ (OT T i ++ Z))) ∧ (X ++ (T.flatMap Tq.parts ++ Z)).Perm (r.parts ++ (X ++ (OT T i ++ Z))) := by
  have hi := (List.getElem?_eq_some_iff.1 h).1
  have e1 : T.set i r' = T.take i ++ r' :: T.drop (i + 1) := List.set_eq_take_append_cons_drop ▸ (by simp [hi])
  have e2 : T = T.take i ++ r :: T.drop (i + 1) := by
    have := (List.getElem?_eq_some_iff.1 h).2
    rw [← this]
    simp
  have key : ∀ y : Tq, (X ++ ((T.take i ++ y :: T.drop (i + 1)).flatMap Tq.parts ++ Z)).Perm (y.parts ++ (X ++ (OT T i ++ Z))) := fun y => by
    have := List.perm_append_comm_assoc (X ++ (T.take i).flatMap Tq.parts) y.parts ((T.drop (i + 1)).flatMap Tq.parts ++ Z)
    simpa [List.append_assoc, OT] using this
  refine ⟨by rw [e1]; exact key r', ?_⟩
  have := key r
  rw [← e2] at this
  exact this

/-- One of the twins is taken out. -/
theorem desk_out {D k : Nat} {va vb vm : Value} {T : List Tq} {M : List Mk} {t : Tq} {Z : List Comp} {w : World} (h : T[k]? = some t) (hA : All (deskL D va vb vm T M ++ Z) w) : All (tabS t.P t.b (Maps.size t.D) t.D :: refC t.R t.v t.ts :: (hdL D va vb vm (pA T) (pB T) M ++ (OT T k ++ Z))) w := by
  refine hA.perm ?_
  have := (flat_mid h (hdL D va vb vm (pA T) (pB T) M) Z t).2
  simpa [deskL, Tq.parts, List.append_assoc] using this
theorem pA_set {T : List Tq} {k : Nat} {t t' : Tq} (h : T[k]? = some t) (hg : t'.P = t.P) : pA (T.set k t') = pA T := by
  unfold pA
  rw [List.map_set]
  refine List.ext_getElem? fun i => ?_
  rw [List.getElem?_set]
  have hk := (List.getElem?_eq_some_iff.1 h).1
  split
  · rename_i e
    subst e
    rw [if_pos (by simpa using hk), List.getElem?_map, h, hg]
    rfl
  · rfl
theorem pB_set {T : List Tq} {k : Nat} {t t' : Tq} (h : T[k]? = some t) (hp : t'.R = t.R) : pB (T.set k t') = pB T := by
  unfold pB
  rw [List.map_set]
  refine List.ext_getElem? fun i => ?_
  rw [List.getElem?_set]
  have hk := (List.getElem?_eq_some_iff.1 h).1
  split
  · rename_i e
    subst e
    rw [if_pos (by simpa using hk), List.getElem?_map, h, hp]
    rfl
  · rfl
/-- A twin is put back, turned. -/
theorem desk_in {D k : Nat} {va vb vm : Value} {T : List Tq} {M : List Mk} {t t' : Tq} {Z : List Comp} {w : World} (h : T[k]? = some t) (hg : t'.P = t.P) (hp : t'.R = t.R) (hA : All (tabS t'.P t'.b (Maps.size t'.D) t'.D :: refC t'.R t'.v t'.ts :: (hdL D va vb vm (pA T) (pB T) M ++ (OT T k ++ Z))) w) : All (deskL D va vb vm (T.set k t') M ++ Z) w := by
  refine hA.perm ?_
  have := (flat_mid h (hdL D va vb vm (pA T) (pB T) M) Z t').1
  unfold deskL
  rw [pA_set h hg, pB_set h hp]
  simpa [Tq.parts, List.append_assoc] using this.symm
theorem setT_same {T : List Tq} {i : Nat} {r : Tq} (h : T[i]? = some r) : T.set i r = T := by
  have := (List.getElem?_eq_some_iff.1 h).2
  rw [← this]; simp
theorem desk_back {D k : Nat} {va vb vm : Value} {T : List Tq} {M : List Mk} {t : Tq} {Z : List Comp} {w : World} (h : T[k]? = some t) (hA : All (tabS t.P t.b (Maps.size t.D) t.D :: refC t.R t.v t.ts :: (hdL D va vb vm (pA T) (pB T) M ++ (OT T k ++ Z))) w) : All (deskL D va vb vm T M ++ Z) w := by
  have := desk_in (t' := t) h rfl rfl hA
  rwa [setT_same h] at this
theorem DF.set {i k : Nat} {T : List Tq} {M : List Mk} (h : DF T M i) {t' : Tq} (hk : t'.ok) : DF (T.set k t') M (i + 1) := by
  refine ⟨fun t ht => ?_, by rw [List.length_set]; exact h.one, by rw [List.length_set]; exact h.four, Nat.le_succ_of_le h.few, h.short⟩
  rcases List.mem_or_eq_of_mem_set ht with ht | rfl
  · exact h.ok t ht
  · exact hk
theorem DF.next {i : Nat} {T : List Tq} {M : List Mk} (h : DF T M i) : DF T M (i + 1) := ⟨h.ok, h.one, h.four, Nat.le_succ_of_le h.few, h.short⟩
/-- What an act leaves. -/
def DeskI (D : Nat) (N i : Nat) (cs : List Comp) (w : World) : Prop := ∃ va vb vm T M, N ≤ T.length ∧ DF T M i ∧ All (deskL D va vb vm T M ++ cs) w
theorem DeskI.mk {D k i : Nat} {va vb vm : Value} {T : List Tq} {M : List Mk} {t t' : Tq} {c : Comp} {cs : List Comp} {w : World} (hT : T[k]? = some t) (hF : DF T M i) (hg : t'.P = t.P) (hp : t'.R = t.R) (hk : t'.ok) (hA : All (tabS t'.P t'.b (Maps.size t'.D) t'.D :: refC t'.R t'.v t'.ts :: (hdL D va vb vm (pA T) (pB T) M ++ (OT T k ++ (c :: cs)))) w) : DeskI D T.length (i + 1) cs w :=
  ⟨va, vb, vm, T.set k t', M, by rw [List.length_set]; exact Nat.le_refl _, hF.set hk, (desk_in hT hg hp hA).mid⟩
theorem DeskI.same {D k i : Nat} {va vb vm : Value} {T : List Tq} {M : List Mk} {t : Tq} {c : Comp} {cs : List Comp} {w : World} (hT : T[k]? = some t) (hF : DF T M i) (hA : All (tabS t.P t.b (Maps.size t.D) t.D :: refC t.R t.v t.ts :: (hdL D va vb vm (pA T) (pB T) M ++ (OT T k ++ (c :: cs)))) w) : DeskI D T.length (i + 1) cs w :=
  ⟨va, vb, vm, T, M, Nat.le_refl _, hF.next, (desk_back hT hA).mid⟩
/-- The desk, as it is read. -/
structure DRead (w : World) (D N k : Nat) (ra ca rb cb : Nat) (g p : Nat) : Prop where
  c0 : w.cell? ⟨D, 0, none⟩ = some (.slice (some ⟨ra, 0, none⟩) N ca)
  c1 : w.cell? ⟨D, 1, none⟩ = some (.slice (some ⟨rb, 0, none⟩) N cb)
  pa : w.cell? ⟨ra, k, none⟩ = some (.pointer (some ⟨g, 0, none⟩))
  pb : w.cell? ⟨rb, k, none⟩ = some (.pointer (some ⟨p, 0, none⟩))
theorem desk_reads {D k : Nat} {va vb vm : Value} {T : List Tq} {M : List Mk} {t : Tq} {Z : List Comp} {w : World} (h : T[k]? = some t) (hA : All (deskL D va vb vm T M ++ Z) w) : ∃ ra ca rb cb, va = .slice (some ⟨ra, 0, none⟩) T.length ca ∧ vb = .slice (some ⟨rb, 0, none⟩) T.length cb ∧ DRead w D T.length k ra ca rb cb t.P t.R := by
  have hD : w.heap[D]? = some (.cells [va, vb, vm].toArray 34 (0, 0)) := hA.blk (by simp [deskL, hdL])
  have hRA : w.ownsRow 0 24 1 va (pA T).length (pA T) := (hA.mem (c := ownC 24 va (pA T)) (by simp [deskL, hdL])).2.1
  have hRB : w.ownsRow 0 27 1 vb (pB T).length (pB T) := (hA.mem (c := ownC 27 vb (pB T)) (by simp [deskL, hdL])).2.1
  obtain ⟨aa, ca, rfl⟩ := owns_form hRA
  obtain ⟨ab, cb, rfl⟩ := owns_form hRB
  obtain ⟨ra, rfl, pa, _⟩ := owns_at hRA (k := k) (u := .pointer (some ⟨t.P, 0, none⟩)) (by simp [pA, h])
  obtain ⟨rb, rfl, pb, _⟩ := owns_at hRB (k := k) (u := .pointer (some ⟨t.R, 0, none⟩)) (by simp [pB, h])
  rw [pA_len] at hD ⊢
  rw [pB_len] at hD ⊢
  exact ⟨ra, ca, rb, cb, rfl, rfl, by rw [cell_at hD]; rfl, by rw [cell_at hD]; rfl, pa, pb⟩
theorem desk_rd {D k N ra ca rb cb : Nat} {vm : Value} {T : List Tq} {M : List Mk} {t : Tq} {Z : List Comp} {w : World} (h : T[k]? = some t) (hA : All (deskL D (.slice (some ⟨ra, 0, none⟩) N ca) (.slice (some ⟨rb, 0, none⟩) N cb) vm T M ++ Z) w) : DRead w D N k ra ca rb cb t.P t.R := by
  obtain ⟨ra', ca', rb', cb', e1, e2, RD⟩ := desk_reads h hA
  simp only [Value.slice.injEq, Option.some.injEq, Addr.mk.injEq, and_true] at e1 e2
  obtain ⟨rfl, rfl, rfl⟩ := e1
  obtain ⟨rfl, _, rfl⟩ := e2
  exact RD

theorem Try.info96 : (Try.prog.info? 96).map (fun i => (i.zero, i.size, i.bytes)) = some (some (.agg #[.slice none 0 0, .string ⟨#[]⟩]), 2, 40) := by kernel_rfl
theorem Mk.one (x : Mk) : ∀ u ∈ x.cells, u.oneCell' = true := by
  intro u hu
  simp only [Mk.cells, List.mem_cons, List.not_mem_nil, or_false] at hu
  rcases hu with rfl | rfl <;> rfl
/-- One list more that was handed out. -/
theorem app_mark {W : World} {K : Nat} {x : Mk} {v : Value} {l : List Mk} {cs : List Comp} (A : All (markC v l :: cs) W) (hK : W.heap[K]? = some (.cells x.cells.toArray 96 (0, 0))) (hlen : (l.length + 1) * 40 ≤ 140737488355328) :
    ∃ ao c w', (Builtin.append_ #[32, 32] 32 #[v, .slice (some ⟨K, 0, none⟩) 1 1]).run Try.prog W = .ok (.slice ao (l.length + 1) c) w' ∧ All (markC (.slice ao (l.length + 1) c) (l ++ [x]) :: cs) w' := by
  obtain ⟨i1, hi1, hz0, hz1, hz2⟩ := info_parts Try.info96
  obtain ⟨v', w', hr, h2, h3, h4, h5⟩ := run_append_own_at (P := Try.prog) W 0 32 32 96 i1 _ 2 40 Try.underlying32 hi1 hz0 hz1 hz2 rfl (by decide) v l.length (flatM l) A.1.2.1 ⟨K, 0, none⟩ 1 1 x.cells rfl
    (fun j u hu => by rw [Addr.add_lit, Nat.zero_add, cell_at hK]; exact (List.getElem?_toArray ..).trans hu) x.one (by unfold maxLen; omega) hlen (by omega)
  obtain ⟨ao, c, rfl⟩ := owns_form h2
  exact ⟨ao, c, w', hr, A.rowGrow (vs' := flatM (l ++ [x])) (n' := (l ++ [x]).length) (by rw [flatM_snoc, List.length_append]; exact h2) h3 h5⟩
theorem hd_open {D : Nat} {va vb vm : Value} {ga gb : List Value} {M : List Mk} {X : Mk} {A B : Comp} {Z : List Comp} {w : World} (h : All (X.comp :: A :: B :: (hdL D va vb vm ga gb M ++ Z)) w) : All (markC vm M :: (blkC D [va, vb, vm] 34 :: (ownC 24 va ga :: ownC 27 vb gb :: (M.map Mk.comp ++ (X.comp :: A :: B :: Z))))) w := by
  refine h.perm ?_
  have := perm_by 6 [[X.comp, A, B], [blkC D [va, vb, vm] 34], [ownC 24 va ga, ownC 27 vb gb], [markC vm M], M.map Mk.comp, Z] [3, 1, 2, 4, 0, 5] rfl (by decide)
  simpa [List.getD, hdL] using this
theorem hd_close {D : Nat} {va vb vm : Value} {ga gb : List Value} {M : List Mk} {X : Mk} {A B : Comp} {Z : List Comp} {w : World} (h : All (blkC D [va, vb, vm] 34 :: (markC vm (M ++ [X]) :: (ownC 24 va ga :: ownC 27 vb gb :: (M.map Mk.comp ++ (X.comp :: A :: B :: Z))))) w) : All (A :: B :: (hdL D va vb vm ga gb (M ++ [X]) ++ Z)) w := by
  refine h.perm ?_
  have := perm_by 7 [[blkC D [va, vb, vm] 34], [markC vm (M ++ [X])], [ownC 24 va ga, ownC 27 vb gb], M.map Mk.comp, [X.comp], [A, B], Z] [5, 0, 2, 1, 3, 4, 6] rfl (by decide)
  simpa [List.getD, hdL] using this
theorem mark_add {D : Nat} {va vb vm : Value} {ga gb : List Value} {M : List Mk} {X : Mk} {A B : Comp} {Z : List Comp} {w : World} (h : All (X.comp :: A :: B :: (hdL D va vb vm ga gb M ++ Z)) w) (hlen : (M.length + 1) * 40 ≤ 140737488355328) :
    w.cell? ⟨D, 2, none⟩ = some vm ∧ w.frozen? ⟨D, 2, none⟩ = false ∧ D < w.heap.size ∧ (∃ ao c w3, (Builtin.append_ #[32, 32] 32 #[vm, .slice (some ⟨w.heap.size, 0, none⟩) 1 1]).run Try.prog (w.alloc (.cells X.cells.toArray 96)) = .ok (.slice ao (M.length + 1) c) w3 ∧ w3.cell? ⟨D, 2, none⟩ = some vm ∧ w3.frozen? ⟨D, 2, none⟩ = false ∧ Hid (All (A :: B :: (hdL D va vb (.slice ao (M.length + 1) c) ga gb (M ++ [X]) ++ Z)) (w3.setCell ⟨D, 2, none⟩ (.slice ao (M.length + 1) c)))) := by
  have h1 := hd_open h
  have hD := h1.tail.1.2.1
  refine ⟨by rw [cell_at hD]; rfl, free_at hD 2, (Array.getElem?_eq_some_iff.1 hD).1, ?_⟩
  obtain ⟨ao, c, w3, hr, A⟩ := app_mark (h1.alloc (.cells X.cells.toArray 96)) (heap_alloc_new w _) hlen
  have hD3 := A.tail.1.2.1
  refine ⟨ao, c, w3, hr, by rw [cell_at hD3]; rfl, free_at hD3 2, hid ?_⟩
  exact hd_close (A.swap.setBlk 2 (.slice ao (M.length + 1) c))
end Go.Proofs.Ytphcfkfdkaphbaa

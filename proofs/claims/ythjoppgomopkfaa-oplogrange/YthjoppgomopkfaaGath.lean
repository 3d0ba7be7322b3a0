import Derived.Test.YthjoppgomopkfaaLaw
import Derived.Test.YthjoppgomopkfaaAppE
import Derived.Maps.AppendAt
namespace Go.Proofs.Ythjoppgomopkfaa
open Go.RowKit Go.Shelf
attribute [local go_sem] Oper.semAt_some
set_option linter.unusedVariables false

/-- A turn of a loop's record, or of the like: the parts stand. -/
theorem All.record {cs : List Comp} {W W' : World} {row : Option Nat} {B : Nat} (h : All cs W) (hg : W.grownBy W' row) (hr : ∀ r, row = some r → B ≤ r ∧ ∃ o : Obj, W.heap[r]? = some o ∧ o.isCells = false) (hc : ∀ d ∈ cs, (∀ k ∈ d.fp, k < B) ∨ (∀ k ∈ d.fp, ∃ o : Obj, W.heap[k]? = some o ∧ o.isCells = true)) : All cs W' := by
  refine h.kept (grown_fr hg) (fun d hd k hk hkd => ?_)
  obtain ⟨hB, o, ho, hoc⟩ := hr k (by simpa using hk)
  rcases hc d hd with h1 | h1
  · have := h1 k hkd; omega
  · obtain ⟨o', ho', hoc'⟩ := h1 k hkd
    rw [ho] at ho'; cases ho'; rw [hoc] at hoc'; cases hoc'
theorem rowC_cells {e : TypeId} {size : Nat} {v : Value} {n : Nat} {vs : List Value} {W : World} (h : (rowC e size v n vs).holds W) : ∀ k ∈ (rowC e size v n vs).fp, ∃ o : Obj, W.heap[k]? = some o ∧ o.isCells = true := by
  intro k hk
  have h' : W.ownsRow 0 e size v n vs := h
  rcases h'.2 with ⟨rfl, _⟩ | ⟨g, cap, cur, rfl, hg, hgg, rest⟩
  · simp [rowC, Value.ownBlock] at hk
  · simp [rowC, Value.ownBlock] at hk
    subst hk
    exact ⟨_, hgg, rfl⟩
theorem blkC_cells {g : Nat} {vs : List Value} {t : TypeId} {W : World} (h : (blkC g vs t).holds W) : ∀ k ∈ (blkC g vs t).fp, ∃ o : Obj, W.heap[k]? = some o ∧ o.isCells = true := by
  intro k hk
  have : k = g := by simpa [blkC] using hk
  subst this
  exact ⟨_, h, rfl⟩
theorem keeps_grown {B : Nat} {W W' : World} {row : Option Nat} (hg : W.grownBy W' row) (hr : ∀ r, row = some r → ∃ o : Obj, W.heap[r]? = some o ∧ o.isCells = true) : KeepsFrom B W W' :=
  ⟨hg.size, fun k o _ hk ho => (hg.block k (Array.getElem?_eq_some_iff.1 hk).1 (fun e => by
    obtain ⟨o', h1, h2⟩ := hr k e.symm
    rw [hk] at h1; cases h1; rw [ho] at h2; cases h2)).trans hk⟩
theorem KeepsFrom.then {B : Nat} {W W1 W2 : World} (h : KeepsFrom B W W1) (k : KeepsFrom B W1 W2) : KeepsFrom B W W2 :=
  ⟨Nat.le_trans h.size k.size, fun i o hB hi ho => k.same i o hB (h.same i o hB hi ho) ho⟩
/-- The iterator's list stays. -/
def KeepH (H0 : Nat) (A B : World) : Prop := ∀ cs, A.heap[H0]? = some (.cells cs 39 (0, 0)) → B.heap[H0]? = some (.cells cs 39 (0, 0))
theorem KeepH.then {H0 : Nat} {A B C : World} (h : KeepH H0 A B) (k : KeepH H0 B C) : KeepH H0 A C := fun cs hc => k cs (h cs hc)
theorem KeepH.put {H0 : Nat} (W : World) (l : Nat) (o o' : Obj) (hl : W.heap[l]? = some o) (ho : o.isCells = false) : KeepH H0 W (W.putObj l o') := fun cs hc => by
  have hne : H0 ≠ l := by
    rintro rfl
    rw [hl] at hc
    cases hc
    cases ho
  exact (World.putObj_heap_other hne).trans hc
theorem KeepH.of {H0 : Nat} {A B : World} {l : List Value} (h1 : A.heap[H0]? = some (.cells l.toArray 39 (0, 0))) (h2 : B.heap[H0]? = some (.cells l.toArray 39 (0, 0))) : KeepH H0 A B := fun cs hc => by
  rw [h1] at hc
  cases hc
  exact h2

/-- The iterator's list, from the first round on. -/
def optH (H0 : Nat) (L : List Ent) (pre : List (Nat × Ent)) : List Comp := if pre = [] then [] else [blkC H0 (flatE L) 39]
/-- The parts of 'gathered' between two rounds. -/
abbrev partsG (OB L0 L1 Bb g b : Nat) (lim : Int) (base : List Comp) (v : Value) (out : List Ent) : List Comp :=
  blkC OB [v] 40 :: entC v out :: blkC L0 [.int .i64 (b : Int)] 3 :: blkC L1 [.int .i64 lim] 3 :: blkC Bb [.pointer (some ⟨g, 0, none⟩)] 23 :: base
def IG (H0 : Nat) (L : List Ent) (OB L0 L1 Bb g b : Nat) (lim : Int) (base : List Comp) (pre : List (Nat × Ent)) (W : World) : Prop :=
  ∃ v, All (optH H0 L pre ++ partsG OB L0 L1 Bb g b lim base v (pre.map Prod.snd)) W
def IG2 (H0 : Nat) (L : List Ent) (OB L0 L1 Bb g b : Nat) (lim : Int) (base : List Comp) (pre : List (Nat × Ent)) (x : Nat × Ent) (W : World) : Prop :=
  pre ++ [x] <+: items b L ∧ ∃ v, All (blkC H0 (flatE L) 39 :: partsG OB L0 L1 Bb g b lim base v (pre.map Prod.snd)) W

section
variable {H0 : Nat} {L : List Ent} {OB L0 L1 Bb g b B : Nat} {lim : Int} {base : List Comp}
theorem partsG_cells {X : List Comp} {v : Value} {out : List Ent} {W : World} (h : All (X ++ partsG OB L0 L1 Bb g b lim base v out) W) (hX : ∀ d ∈ X, ∃ g vs t, d = blkC g vs t) (hb : ∀ d ∈ base, ∀ k ∈ d.fp, k < B) :
    ∀ d ∈ X ++ partsG OB L0 L1 Bb g b lim base v out, (∀ k ∈ d.fp, k < B) ∨ (∀ k ∈ d.fp, ∃ o : Obj, W.heap[k]? = some o ∧ o.isCells = true) := by
  intro d hm
  have hh := (h.mem hm).2.1
  simp only [partsG, List.mem_cons, List.mem_append] at hm
  rcases hm with hm | rfl | rfl | rfl | rfl | rfl | hm
  · obtain ⟨g, vs, t, rfl⟩ := hX d hm
    exact Or.inr (blkC_cells hh)
  · exact Or.inr (blkC_cells hh)
  · exact Or.inr (rowC_cells hh)
  · exact Or.inr (blkC_cells hh)
  · exact Or.inr (blkC_cells hh)
  · exact Or.inr (blkC_cells hh)
  · exact Or.inl (hb d hm)
theorem optH_blk {pre : List (Nat × Ent)} : ∀ d ∈ optH H0 L pre, ∃ g vs t, d = blkC g vs t := by
  intro d hd
  unfold optH at hd
  split at hd
  · cases hd
  · exact ⟨_, _, _, by simpa using hd⟩
theorem IG_own (hb : ∀ d ∈ base, ∀ k ∈ d.fp, k < B) : OwnFrom B (IG H0 L OB L0 L1 Bb g b lim base) := by
  rintro pre A C row ⟨v, hA⟩ hg hr
  exact ⟨v, hA.record hg hr (partsG_cells hA optH_blk hb)⟩
theorem IG2_own (pre : List (Nat × Ent)) (hb : ∀ d ∈ base, ∀ k ∈ d.fp, k < B) : OwnFrom B (IG2 H0 L OB L0 L1 Bb g b lim base pre) := by
  rintro x A C row ⟨hp, v, hA⟩ hg hr
  exact ⟨hp, v, All.record (cs := [blkC H0 (flatE L) 39] ++ partsG OB L0 L1 Bb g b lim base v (pre.map Prod.snd)) hA hg hr (partsG_cells (X := [blkC H0 (flatE L) 39]) hA (fun d hd => ⟨_, _, _, by simpa using hd⟩) hb)⟩
theorem IG_fresh {pre : List (Nat × Ent)} {x : Nat × Ent} {W0 W1 : World} (h : IG H0 L OB L0 L1 Bb g b lim base pre W0) (hf : FreshI H0 b L pre x W0 W1) : IG2 H0 L OB L0 L1 Bb g b lim base pre x W1 := by
  obtain ⟨v, hA⟩ := h
  refine ⟨hf.next, v, ?_⟩
  by_cases hp : pre = []
  · have h1 := hf.first hp
    rw [optH, if_pos hp, List.nil_append] at hA
    refine hA.add (Fr.below hf.below) (blkC_good _ _ _) hf.list (fun k hk => ?_)
    have : k = H0 := by simpa [blkC] using hk
    subst this
    exact ⟨h1, (Array.getElem?_eq_some_iff.1 hf.list).1⟩
  · rw [optH, if_neg hp] at hA
    exact hA.later hf.below
end
theorem All_any {w : World} {g : Nat} : Calls Try.prog 19 #[.pointer (some ⟨g, 0, none⟩)] w fun e w' => e = .returned (.func (.func 40) #[] #[.pointer (some ⟨w.heap.size, 0, none⟩)]) ∧ w' = w.alloc (.cells #[.pointer (some ⟨g, 0, none⟩)] 23) := by
  go_enter Try.func19, Try.ntmps19
  go_wp2
  go_ret
  exact ⟨rfl, rfl⟩
end Go.Proofs.Ythjoppgomopkfaa

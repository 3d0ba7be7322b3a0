import Derived.Test.YtmpbdncgilahkaaRClone
import Derived.Test.YtmpbdncgilahkaaTxt
import Derived.Test.YtmpbdncgilahkaaClrS
import Derived.Test.YtmpbdncgilahkaaCntS
import Derived.Test.YtmpbdncgilahkaaShown
namespace Go.Proofs.Ytmpbdncgilahkaa
open Go.RowKit
set_option linter.unusedVariables false

/-- What the document's tally holds, as a program's one does. -/
def opt : List Int → List Bool → List (Option Int)
  | v :: vs, b :: bs => (bif b then some v else none) :: opt vs bs
  | _, _ => []
def wsOf (f : Rfs) : List (Option Int) := opt f.said f.spoke ++ List.replicate (7 - f.n) none
def wsT (f : Rfs) : List (Option ByteArray) := (wsOf f).map (Option.map txt)

theorem opt_len : ∀ (vs : List Int) (bs : List Bool), vs.length = bs.length → (opt vs bs).length = vs.length
  | [], [], _ => rfl
  | v :: vs, b :: bs, h => by simp [opt, opt_len vs bs (by simpa using h)]
theorem opt_get : ∀ (vs : List Int) (bs : List Bool) (k : Nat) (v : Int) (b : Bool), vs[k]? = some v → bs[k]? = some b → (opt vs bs)[k]? = some (bif b then some v else none)
  | [], _, k, v, b, h, _ => by simp at h
  | v' :: vs, [], k, v, b, _, h => by simp at h
  | v' :: vs, b' :: bs, 0, v, b, h1, h2 => by simp at h1 h2; simp [opt, h1, h2]
  | v' :: vs, b' :: bs, k + 1, v, b, h1, h2 => by simpa [opt] using opt_get vs bs k v b (by simpa using h1) (by simpa using h2)
theorem opt_add : ∀ (vs : List Int) (bs : List Bool) (k : Nat) (v : Int), (opt vs bs).set k (some v) = opt (vs.set k v) (bs.set k true)
  | [], _, k, v => by simp [opt]
  | v' :: vs, [], k, v => by cases k <;> simp [opt]
  | v' :: vs, b' :: bs, 0, v => by simp [opt]
  | v' :: vs, b' :: bs, k + 1, v => by simp [opt, opt_add vs bs k v]
theorem opt_drop : ∀ (vs : List Int) (bs : List Bool) (k : Nat), (opt vs bs).set k none = opt vs (bs.set k false)
  | [], _, k => by simp [opt]
  | v' :: vs, [], k => by simp [opt]
  | v' :: vs, b' :: bs, 0 => by simp [opt]
  | v' :: vs, b' :: bs, k + 1 => by simp [opt, opt_drop vs bs k]
theorem opt_none : ∀ (vs : List Int) (n : Nat), vs.length = n → opt vs (List.replicate n false) = List.replicate n none
  | [], n, h => by subst h; rfl
  | v :: vs, n, h => by
    subst h
    have := opt_none vs vs.length rfl
    simp only [List.length_cons, List.replicate_succ, opt, this, cond_false]

section
variable {f : Rfs}
theorem wsOf_get {k : Nat} {v : Int} {b : Bool} (h1 : f.said[k]? = some v) (h2 : f.spoke[k]? = some b) : (wsOf f)[k]? = some (bif b then some v else none) := by
  have := opt_get _ _ _ _ _ h1 h2
  unfold wsOf
  rw [List.getElem?_append_left (List.getElem?_eq_some_iff.1 this).1]
  exact this
theorem wsT_get {k : Nat} {v : Int} {b : Bool} (h1 : f.said[k]? = some v) (h2 : f.spoke[k]? = some b) : (wsT f)[k]? = some ((bif b then some v else none).map txt) := by
  unfold wsT; rw [List.getElem?_map, wsOf_get h1 h2]; rfl
theorem wsOf_add {k : Nat} {v : Int} (hl : f.said.length = f.spoke.length) (hk : k < f.said.length) : (wsOf f).set k (some v) = wsOf { f with said := f.said.set k v, spoke := f.spoke.set k true } := by
  unfold wsOf
  rw [List.set_append, if_pos (by rw [opt_len _ _ hl]; exact hk), opt_add]
theorem wsOf_drop {k : Nat} (hl : f.said.length = f.spoke.length) (hk : k < f.said.length) : (wsOf f).set k none = wsOf { f with spoke := f.spoke.set k false } := by
  unfold wsOf
  rw [List.set_append, if_pos (by rw [opt_len _ _ hl]; exact hk), opt_drop]
theorem wsT_add {k : Nat} {v : Int} (hl : f.said.length = f.spoke.length) (hk : k < f.said.length) : (wsT f).set k (some (txt v)) = wsT { f with said := f.said.set k v, spoke := f.spoke.set k true } := by
  unfold wsT; rw [← wsOf_add hl hk, List.map_set]; rfl
theorem wsT_drop {k : Nat} (hl : f.said.length = f.spoke.length) (hk : k < f.said.length) : (wsT f).set k none = wsT { f with spoke := f.spoke.set k false } := by
  unfold wsT; rw [← wsOf_drop hl hk, List.map_set]; rfl
theorem wsOf_none (hl : f.said.length = f.n) (h7 : f.n ≤ 7) : wsOf { f with spoke := List.replicate f.n false } = [none, none, none, none, none, none, none] := by
  unfold wsOf
  simp only
  rw [opt_none _ _ hl, ← List.replicate_append_replicate.symm, show f.n + (7 - f.n) = 7 by omega]
  rfl
theorem wsT_none (hl : f.said.length = f.n) (h7 : f.n ≤ 7) : wsT { f with spoke := List.replicate f.n false } = [none, none, none, none, none, none, none] := by
  unfold wsT; rw [wsOf_none hl h7]; rfl
end

/-- A tally of numbers, one of texts, and the document's. -/
structure Tg where
  a : Nat
  b : Nat
  f : Rfs

structure Th (w : World) (t : Tg) : Prop where
  ta : TalI w t.a t.f.n (wsOf t.f)
  tb : TalS w t.b t.f.n (wsT t.f)
  rf : Rf w t.f
  nab : t.a ≠ t.b
  nar : t.a ≠ t.f.r
  nas : t.a ≠ t.f.s
  nap : t.a ≠ t.f.p
  nbr : t.b ≠ t.f.r
  nbs : t.b ≠ t.f.s
  nbp : t.b ≠ t.f.p

def Tg.blocks (t : Tg) : List Nat := [t.a, t.b, t.f.r, t.f.s, t.f.p]

section
variable {w w' : World} {t : Tg}
theorem Th.keep (h : Th w t) (hk : ∀ k ∈ t.blocks, w'.heap[k]? = w.heap[k]?) : Th w' t :=
  ⟨h.ta.keep (hk _ (by simp [Tg.blocks])), h.tb.keep (hk _ (by simp [Tg.blocks])), h.rf.keep (hk _ (by simp [Tg.blocks])) (hk _ (by simp [Tg.blocks])) (hk _ (by simp [Tg.blocks])), h.nab, h.nar, h.nas, h.nap, h.nbr, h.nbs, h.nbp⟩
theorem Th.lt (h : Th w t) : ∀ k ∈ t.blocks, k < w.heap.size := by
  intro k hk
  simp only [Tg.blocks, List.mem_cons, List.not_mem_nil, or_false] at hk
  rcases hk with rfl | rfl | rfl | rfl | rfl
  · exact h.ta.lt
  · exact h.tb.lt
  · exact (Array.getElem?_eq_some_iff.1 h.rf.blk).1
  · exact h.rf.ints.lt
  · exact h.rf.bools.lt
theorem Th.later (h : Th w t) (hb : Below w.heap.size w w') : Th w' t := h.keep fun k hk => hb.block k (h.lt k hk)
theorem Th.drewN (h : Th w t) (q : Nat) : Th (w.drewN q) t := h.keep fun _ _ => rfl
theorem Th.one (h : Th w t) : (1 : Int) ≤ t.f.n := by have := h.rf.one; omega
theorem Th.seven (h : Th w t) : (t.f.n : Int) ≤ 7 := by have := h.rf.seven; omega
theorem Th.ls (h : Th w t) : t.f.said.length = t.f.spoke.length := by rw [h.rf.lsaid, h.rf.lspoke]
end

/-- One more, in all three. -/
def Tg.add (t : Tg) (k : Nat) (v : Int) : Tg := { t with f := { t.f with said := t.f.said.set k v, spoke := t.f.spoke.set k true } }
def Tg.drop (t : Tg) (k : Nat) : Tg := { t with f := { t.f with spoke := t.f.spoke.set k false } }
def Tg.clear (t : Tg) : Tg := { t with f := { t.f with spoke := List.replicate t.f.n false } }

/-- How many have spoken is how many are told. -/
theorem said_opt : ∀ (i : Nat) (vs : List Int) (bs : List Bool), vs.length = bs.length → (said i (opt vs bs)).length = cnt bs
  | i, [], [], _ => rfl
  | i, v :: vs, true :: bs, h => by simp [opt, said, said_opt (i + 1) vs bs (by simpa using h), cnt]
  | i, v :: vs, false :: bs, h => by simp [opt, said, said_opt (i + 1) vs bs (by simpa using h), cnt]
theorem said_nones {α : Type} : ∀ (i n : Nat), said (α := α) i (List.replicate n none) = []
  | i, 0 => rfl
  | i, n + 1 => by simp [List.replicate_succ, said, said_nones (i + 1) n]
theorem said_wsOf {f : Rfs} (hl : f.said.length = f.spoke.length) : said 0 (wsOf f) = said 0 (opt f.said f.spoke) := by
  unfold wsOf; rw [said_append, said_nones, List.append_nil]
theorem said_map {α β : Type} (g : α → β) : ∀ (i : Nat) (ws : List (Option α)), said i (ws.map (Option.map g)) = (said i ws).map fun x => (x.1, g x.2)
  | i, [] => rfl
  | i, none :: ws => by simp [said, said_map g (i + 1) ws]
  | i, some v :: ws => by simp [said, said_map g (i + 1) ws]
end Go.Proofs.Ytmpbdncgilahkaa

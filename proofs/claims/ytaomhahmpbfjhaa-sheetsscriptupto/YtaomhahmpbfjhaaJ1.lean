import Derived.Test.YtaomhahmpbfjhaaRows
import Derived.WalkKit
import Derived.WalkSpells
import Derived.WalkLawsBesides
import Derived.Maps.AppendAt
import Derived.Laws.AppendOwnNone
import Derived.Laws.BitsAllLaws
import Derived.Deep.Draws
import Derived.ArgAppend
import Derived.Deep.RegionLaw
import Derived.Deep.RegionWith
import Derived.Deep.DrawnRows
import Derived.Deep.AppendLies
import Derived.WalkMore
import Derived.Deep.LoopGhost
import Derived.Laws.BytesArg
import Derived.WideShapes
import Derived.Lib.Strings
import Derived.Laws.AppendOwn
import Derived.Deep.RegionHeld3
import Derived.Deep.DeepCutAuto
namespace Go.Proofs.Ytaomhahmpbfjhaa
open Go.RowKit
set_option linter.unusedVariables false

theorem hid {p : Prop} (h : p) : Hid p := h

theorem cell_at {w : World} {b : Nat} {cs : Array Value} {t : TypeId} {fr : Nat × Nat} (h : w.heap[b]? = some (.cells cs t fr)) (j : Nat) : w.cell? ⟨b, j, none⟩ = cs[j]? := by
  simp [World.cell?, h]

theorem free_at {w : World} {b : Nat} {cs : Array Value} {t : TypeId} (h : w.heap[b]? = some (.cells cs t (0, 0))) (j : Nat) : w.frozen? ⟨b, j, none⟩ = false := by
  simp [World.frozen?, h]

theorem heap_setCell_same {w : World} {b j : Nat} {cs : Array Value} {t : TypeId} {fr : Nat × Nat} (h : w.heap[b]? = some (.cells cs t fr)) (u : Value) :
    (w.setCell ⟨b, j, none⟩ u).heap[b]? = some (.cells (cs.setIfInBounds j u) t fr) := by
  simp [World.setCell, Array.getElem?_modify, h]

theorem owns_form {w : World} {base : Nat} {e : TypeId} {size : Nat} {v : Value} {n : Nat} {xs : List Value} (h : w.ownsRow base e size v n xs) : ∃ ao cap, v = .slice ao n cap := by
  rcases h.2 with ⟨rfl, e⟩ | ⟨g, cap, _, rfl, _⟩
  · exact ⟨none, 0, by rw [e]⟩
  · exact ⟨_, cap, rfl⟩

theorem owns_zero {w : World} {base : Nat} {e : TypeId} {size : Nat} {v : Value} {n : Nat} {xs : List Value} (h : w.ownsRow base e size v n xs) : w.ownsRow 0 e size v n xs := by
  refine ⟨h.1, ?_⟩
  rcases h.2 with hn | ⟨g, cap, cur, rfl, hg, rest⟩
  · exact Or.inl hn
  · exact Or.inr ⟨g, cap, cur, rfl, by omega, rest⟩

/-- Of what was there nothing has turned but the blocks of a list. -/
structure Fr (F : List Nat) (w w' : World) : Prop where
  os : w'.os = w.os
  tape : w'.tape = w.tape
  output : w'.output = w.output
  size : w.heap.size ≤ w'.heap.size
  block : ∀ k, k < w.heap.size → k ∉ F → w'.heap[k]? = w.heap[k]?

theorem Fr.refl (F : List Nat) (w : World) : Fr F w w := ⟨rfl, rfl, rfl, Nat.le_refl _, fun _ _ _ => rfl⟩

/-- New blocks, or old ones of a list. -/
def Gr (F F' : List Nat) (n : Nat) : Prop := ∀ k ∈ F', k ∈ F ∨ n ≤ k

theorem Fr.mono {F G : List Nat} {w w' : World} (h : Fr F w w') (hs : ∀ k ∈ F, k ∈ G) : Fr G w w' := ⟨h.os, h.tape, h.output, h.size, fun k hk hG => h.block k hk (fun hF => hG (hs k hF))⟩
theorem Fr.trans {F G : List Nat} {w w1 w2 : World} (h : Fr F w w1) (k : Fr G w1 w2) (hg : Gr F G w.heap.size) : Fr F w w2 :=
  ⟨k.os.trans h.os, k.tape.trans h.tape, k.output.trans h.output, Nat.le_trans h.size k.size, fun i hi hF => by
    rw [k.block i (Nat.lt_of_lt_of_le hi h.size) (fun hG => ?_), h.block i hi hF]
    rcases hg i hG with e | e
    · exact hF e
    · omega⟩
theorem Fr.below {F : List Nat} {w w' : World} (h : Below w.heap.size w w') : Fr F w w' := ⟨h.os, h.tape, h.output, h.size, fun k hk _ => h.block k hk⟩
theorem Fr.toBelow {w w' : World} (h : Fr [] w w') : Below w.heap.size w w' := ⟨h.os, h.tape, h.output, h.size, fun k hk => h.block k hk (by simp)⟩
theorem Fr.setCell (w : World) (b j : Nat) (u : Value) : Fr [b] w (w.setCell ⟨b, j, none⟩ u) :=
  ⟨rfl, rfl, rfl, by simp [World.setCell], fun k _ hb => Below.heap_setCell _ _ _ _ (by simpa using hb)⟩
theorem Gr.refl (F : List Nat) (n : Nat) : Gr F F n := fun k hk => Or.inl hk

/-- A part of the memory that is known. -/
structure Comp where
  holds : World → Prop
  fp : List Nat

/-- A later world, as far as it is not memory. -/
structure Later (w w' : World) : Prop where
  os : w'.os = w.os
  tape : w'.tape = w.tape
  output : w'.output = w.output
  size : w.heap.size ≤ w'.heap.size

/-- It hangs on its own blocks alone. -/
def Comp.Good (c : Comp) : Prop := ∀ w w', c.holds w → Later w w' → (∀ k ∈ c.fp, w'.heap[k]? = w.heap[k]?) → c.holds w'

def Disj (F G : List Nat) : Prop := ∀ k ∈ F, k ∉ G
theorem Disj.symm {F G : List Nat} (h : Disj F G) : Disj G F := fun k hk hF => h k hF hk

/-- Parts that have nothing in common. -/
def All : List Comp → World → Prop
  | [], _ => True
  | c :: cs, w => (c.Good ∧ c.holds w ∧ ∀ k ∈ c.fp, k < w.heap.size) ∧ (∀ d ∈ cs, Disj c.fp d.fp) ∧ All cs w

theorem All.mem {cs : List Comp} {w : World} (h : All cs w) {c : Comp} (hc : c ∈ cs) : c.Good ∧ c.holds w ∧ ∀ k ∈ c.fp, k < w.heap.size := by
  induction cs with
  | nil => cases hc
  | cons d cs ih =>
    rcases List.mem_cons.1 hc with rfl | hc
    · exact h.1
    · exact ih h.2.2 hc

/-- Parts that were not touched. -/
theorem All.kept {cs : List Comp} {w w' : World} {F : List Nat} (h : All cs w) (hf : Fr F w w') (hd : ∀ d ∈ cs, Disj F d.fp) : All cs w' := by
  induction cs with
  | nil => exact trivial
  | cons c cs ih =>
    obtain ⟨⟨hg, hh, hlt⟩, hdj, hr⟩ := h
    refine ⟨⟨hg, hg w w' hh ⟨hf.os, hf.tape, hf.output, hf.size⟩ (fun k hk => hf.block k (hlt k hk) (fun hF => hd c (by simp) k hF hk)), fun k hk => Nat.lt_of_lt_of_le (hlt k hk) hf.size⟩, hdj, ih hr (fun d hd' => hd d (by simp [hd']))⟩

/-- The first part is turned. -/
theorem All.turn {c c' : Comp} {cs : List Comp} {w w' : World} (h : All (c :: cs) w) (hf : Fr c.fp w w') (hg : c'.Good) (hh : c'.holds w') (hgr : Gr c.fp c'.fp w.heap.size) (hlt : ∀ k ∈ c'.fp, k < w'.heap.size) : All (c' :: cs) w' := by
  refine ⟨⟨hg, hh, hlt⟩, fun d hd k hk hkd => ?_, h.2.2.kept hf h.2.1⟩
  rcases hgr k hk with e | e
  · exact h.2.1 d hd k e hkd
  · have := (h.2.2.mem hd).2.2 k hkd; omega

/-- A new part. -/
theorem All.add {c : Comp} {cs : List Comp} {w w' : World} (h : All cs w) (hf : Fr [] w w') (hg : c.Good) (hh : c.holds w') (hnew : ∀ k ∈ c.fp, w.heap.size ≤ k ∧ k < w'.heap.size) : All (c :: cs) w' := by
  refine ⟨⟨hg, hh, fun k hk => (hnew k hk).2⟩, fun d hd k hk hkd => ?_, h.kept hf (fun d _ k hk => by cases hk)⟩
  have := (h.mem hd).2.2 k hkd
  have := (hnew k hk).1
  omega

theorem All.later {cs : List Comp} {w w' : World} (h : All cs w) (hb : Below w.heap.size w w') : All cs w' := h.kept (Fr.below (F := []) hb) (fun d _ k hk => by cases hk)

theorem All.swap {c d : Comp} {cs : List Comp} {w : World} (h : All (c :: d :: cs) w) : All (d :: c :: cs) w := by
  obtain ⟨h1, h2, h3, h4, h5⟩ := h
  refine ⟨h3, fun x hx => ?_, h1, fun x hx => h2 x (by simp [hx]), h5⟩
  rcases List.mem_cons.1 hx with rfl | hx
  · exact (h2 d (by simp)).symm
  · exact h4 x hx

theorem All.perm {cs ds : List Comp} {w : World} (p : cs.Perm ds) (h : All cs w) : All ds w := by
  induction p with
  | nil => exact h
  | cons x _ ih =>
    rename_i l1 l2 hp
    exact ⟨h.1, fun d hd => h.2.1 d (hp.mem_iff.2 hd), ih h.2.2⟩
  | swap x y l => exact h.swap
  | trans _ _ ih1 ih2 => exact ih2 (ih1 h)

theorem All.tail {c : Comp} {cs : List Comp} {w : World} (h : All (c :: cs) w) : All cs w := h.2.2

/-- What came in. -/
def inC (w0 : World) : Comp := ⟨fun w => Below w0.heap.size w0 w, List.range w0.heap.size⟩

theorem inC_good (w0 : World) : (inC w0).Good := by
  intro w w' h hs hb
  have h' : Below w0.heap.size w0 w := h
  exact ⟨hs.os.trans h'.os, hs.tape.trans h'.tape, hs.output.trans h'.output, Nat.le_trans h'.size hs.size, fun k hk => (hb k (List.mem_range.2 hk)).trans (h'.block k hk)⟩

theorem All.came (w : World) : All [inC w] w := ⟨⟨inC_good w, Below.refl _ _, fun k hk => List.mem_range.1 hk⟩, ⟨fun d hd => (by cases hd), trivial⟩⟩

theorem Fr.set {F : List Nat} {w w' : World} (h : Fr F w w') (b j : Nat) (v : Value) (hb : b ∈ F) : Fr F w (w'.setCell ⟨b, j, none⟩ v) :=
  ⟨h.os, h.tape, h.output, by simpa [World.setCell] using h.size, fun k hk hF => (Below.heap_setCell _ _ _ _ (by intro e; exact hF (by rw [show k = b from e]; exact hb))).trans (h.block k hk hF)⟩
theorem Fr.drewN {F : List Nat} {w w' : World} (h : Fr F w w') (q : Nat) : Fr F w (w'.drewN q) := ⟨h.os, h.tape, h.output, h.size, h.block⟩
theorem Fr.drew {F : List Nat} {w w' : World} (h : Fr F w w') : Fr F w w'.drew := ⟨h.os, h.tape, h.output, h.size, h.block⟩
theorem Fr.trans' {F : List Nat} {w w1 w2 : World} (h : Fr F w w1) (k : Fr F w1 w2) : Fr F w w2 :=
  ⟨k.os.trans h.os, k.tape.trans h.tape, k.output.trans h.output, Nat.le_trans h.size k.size, fun i hi hF => (k.block i (Nat.lt_of_lt_of_le hi h.size) hF).trans (h.block i hi hF)⟩
theorem ba (w : World) (o : Obj) : Below w.heap.size w (w.alloc o) := (Below.refl _ _).alloc (Nat.le_refl _) _
theorem bdN (w : World) (q : Nat) : Below w.heap.size w (w.drewN q) := ⟨rfl, rfl, rfl, Nat.le_refl _, fun _ _ => rfl⟩
theorem bd (w : World) : Below w.heap.size w w.drew := ⟨rfl, rfl, rfl, Nat.le_refl _, fun _ _ => rfl⟩
theorem All.drew {cs : List Comp} {w : World} (h : All cs w) : All cs w.drew := h.later (bd w)
theorem All.drewN {cs : List Comp} {w : World} (h : All cs w) (q : Nat) : All cs (w.drewN q) := h.later (bdN w q)
theorem All.alloc {cs : List Comp} {w : World} (h : All cs w) (o : Obj) : All cs (w.alloc o) := h.later (ba w o)
theorem All.mid {xs bs : List Comp} {c : Comp} {w : World} (h : All (xs ++ c :: bs) w) : All (xs ++ bs) w := (h.perm List.perm_middle).tail
theorem All.into {cs : List Comp} {w w0 : World} (h : All cs w) (hin : inC w0 ∈ cs) : Below w0.heap.size w0 w := (h.mem hin).2.1
theorem grown_fr {w w1 : World} {row : Option Nat} (h : w.grownBy w1 row) : Fr row.toList w w1 :=
  ⟨h.os, h.tape, h.output, h.size, fun k hk hF => h.block k hk (fun e => hF (by simp [← e]))⟩
theorem cell_under {w w' : World} (hb : Below w.heap.size w w') {g j : Nat} (hg : g < w.heap.size) {u : Value} (h : w.cell? ⟨g, j, none⟩ = some u) : w'.cell? ⟨g, j, none⟩ = some u := by
  rw [← h]
  unfold World.cell?
  rw [hb.block g hg]

/-- A block, just so. -/
def blkC (g : Nat) (vs : List Value) (t : TypeId) : Comp := ⟨fun w => w.heap[g]? = some (.cells vs.toArray t (0, 0)), [g]⟩
theorem blkC_good (g : Nat) (vs : List Value) (t : TypeId) : (blkC g vs t).Good := fun w w' h _ hb => (hb g (by simp [blkC])).trans h
theorem All.addBlk {cs : List Comp} {w : World} (h : All cs w) (vs : List Value) (t : TypeId) : All (blkC w.heap.size vs t :: cs) (w.alloc (.cells vs.toArray t)) := by
  refine h.add (Fr.below (ba w _)) (blkC_good _ _ _) (heap_alloc_new w _) (fun k hk => ?_)
  have : k = w.heap.size := by simpa [blkC] using hk
  subst this
  exact ⟨Nat.le_refl _, by simp⟩
theorem All.setBlk {g : Nat} {vs : List Value} {t : TypeId} {cs : List Comp} {w : World} (h : All (blkC g vs t :: cs) w) (j : Nat) (u : Value) : All (blkC g (vs.set j u) t :: cs) (w.setCell ⟨g, j, none⟩ u) := by
  have hg : w.heap[g]? = some (.cells vs.toArray t (0, 0)) := h.1.2.1
  refine h.turn (Fr.setCell w g j u) (blkC_good _ _ _) ?_ (fun k hk => Or.inl hk) (fun k hk => ?_)
  · have := heap_setCell_same (j := j) hg u
    simpa [blkC] using this
  · have : k = g := by simpa [blkC] using hk
    subst this
    simpa [World.setCell] using h.1.2.2 k (by simp [blkC])
theorem All.blk {g : Nat} {vs : List Value} {t : TypeId} {cs : List Comp} {w : World} (h : All cs w) (hm : blkC g vs t ∈ cs) : w.heap[g]? = some (.cells vs.toArray t (0, 0)) := (h.mem hm).2.1

/-- A row of one's own. -/
def ownC (e : TypeId) (v : Value) (vs : List Value) : Comp := ⟨fun w => w.ownsRow 0 e 1 v vs.length vs, v.ownBlock.toList⟩
theorem ownC_good (e : TypeId) (v : Value) (vs : List Value) : (ownC e v vs).Good := by
  intro w w' h hs hb
  exact ⟨h.1, by
    rcases h.2 with hn | ⟨g, cap, cur, rfl, hg, hgg, rest⟩
    · exact Or.inl hn
    · exact Or.inr ⟨g, cap, cur, rfl, hg, by rw [hb g (by simp [ownC, Value.ownBlock])]; exact hgg, rest⟩⟩
theorem All.addOwn {e : TypeId} {cs : List Comp} {w w' : World} {v : Value} {l : List Value} (h : All cs w) (hb : Below w.heap.size w w') (ho : w'.ownsRow w.heap.size e 1 v l.length l) : All (ownC e v l :: cs) w' := by
  refine h.add (Fr.below hb) (ownC_good e v l) (owns_zero ho) (fun k hk => ?_)
  have hk' : v.ownBlock = some k := by simpa [ownC] using hk
  exact World.ownsRow.lt ho k hk'
theorem All.addNil {e : TypeId} {cs : List Comp} {w : World} (h : All cs w) : All (ownC e (.slice none 0 0) [] :: cs) w :=
  ⟨⟨ownC_good _ _ _, ⟨by simp, Or.inl ⟨rfl, rfl⟩⟩, fun k hk => by simp [ownC, Value.ownBlock] at hk⟩, fun d hd k hk => by simp [ownC, Value.ownBlock] at hk, h⟩
theorem All.ownGrow {e : TypeId} {v v' : Value} {vs vs' : List Value} {cs : List Comp} {w w1 : World} {base : Nat} (h : All (ownC e v vs :: cs) w) (hown : w1.ownsRow base e 1 v' vs'.length vs') (hg : w.grownBy w1 v.ownBlock) (hat : v'.ownBlock = v.ownBlock ∨ v'.ownBlock = some w.heap.size) : All (ownC e v' vs' :: cs) w1 := by
  have ho' := owns_zero hown
  refine h.turn ((grown_fr hg).mono (fun k hk => by simpa [ownC] using hk)) (ownC_good _ _ _) ho' (fun k hk => ?_) (fun k hk => ?_)
  · have hk' : v'.ownBlock = some k := by simpa [ownC] using hk
    rcases hat with e1 | e1
    · exact Or.inl (by simp [ownC, ← e1, hk'])
    · rw [e1] at hk'; simp at hk'; exact Or.inr (by omega)
  · have hk' : v'.ownBlock = some k := by simpa [ownC] using hk
    exact (ho'.lt k hk').2
theorem owns_at {w : World} {base : Nat} {e : TypeId} {ao : Option Addr} {n c : Nat} {us : List Value} (h : w.ownsRow base e 1 (.slice ao n c) us.length us) {k : Nat} {u : Value} (hu : us[k]? = some u) : ∃ g, ao = some ⟨g, 0, none⟩ ∧ w.cell? ⟨g, k, none⟩ = some u ∧ w.frozen? ⟨g, k, none⟩ = false := by
  have hk := (List.getElem?_eq_some_iff.1 hu).1
  rcases h.2 with ⟨e, e2⟩ | ⟨g, cap, cur, e, _, hg, hn, hm, hcs, ht⟩
  · omega
  · simp only [Value.slice.injEq] at e
    refine ⟨g, e.1, ?_, free_at hg _⟩
    rw [cell_at hg, ← Array.getElem?_toList]
    rw [← ht, List.getElem?_take, if_pos (by omega)] at hu
    exact hu
theorem owns_len {w : World} {base : Nat} {e : TypeId} {ao : Option Addr} {n c : Nat} {us : List Value} (h : w.ownsRow base e 1 (.slice ao n c) us.length us) : n = us.length ∧ us.length ≤ c := by
  rcases h.2 with ⟨e, e2⟩ | ⟨g, cap, cur, e, _, hg, hn, hm, hcs, ht⟩
  · simp only [Value.slice.injEq] at e
    exact ⟨by omega, by omega⟩
  · simp only [Value.slice.injEq] at e
    exact ⟨e.2.1, by omega⟩

end Go.Proofs.Ytaomhahmpbfjhaa

namespace Go.Proofs.Ytaomhahmpbfjhaa
open Go.RowKit
set_option linter.unusedVariables false

theorem Try.info5 : (Try.prog.info? 5).map (fun i => (i.zero, i.size, i.bytes)) = some (some (.int .u8 0), 1, 1) := by kernel_rfl

/-- Bytes as cells. -/
def cellsB (l : List UInt8) : List Value := l.map fun b => Value.int .u8 (b.toNat : Int)

theorem cellsB_length (l : List UInt8) : (cellsB l).length = l.length := by simp [cellsB]
theorem cellsB_append (a b : List UInt8) : cellsB (a ++ b) = cellsB a ++ cellsB b := by simp [cellsB]
theorem cellsB_one (l : List UInt8) : ∀ u ∈ cellsB l, u.oneCell' = true := by
  intro u hu
  obtain ⟨_, _, rfl⟩ := List.mem_map.1 hu
  rfl
theorem cellsB_inj {a b : List UInt8} (h : cellsB a = cellsB b) : a = b := by
  unfold cellsB at h
  refine (List.map_inj_right ?_).1 h
  intro x y e
  simp only [Value.int.injEq, true_and] at e
  exact UInt8.toNat_inj.1 (by exact_mod_cast e)

/-- A slice of bytes, read in a world; of an empty one's address nothing is known. -/
def Reads (w : World) (s : Value) (l : List UInt8) : Prop :=
  ∃ ao c, s = .slice ao l.length c ∧ l.length ≤ c ∧ ((l = [] ∧ (ao = none → c = 0)) ∨ ∃ g o, ao = some ⟨g, o, none⟩ ∧ g < w.heap.size ∧ ∀ j u, (cellsB l)[j]? = some u → w.cell? ⟨g, o + j, none⟩ = some u)

theorem Reads.form {w : World} {s : Value} {l : List UInt8} (h : Reads w s l) : ∃ ao c, s = .slice ao l.length c := by
  obtain ⟨ao, c, rfl, _⟩ := h
  exact ⟨ao, c, rfl⟩

theorem Reads.nil (w : World) : Reads w (.slice none 0 0) [] := ⟨none, 0, rfl, by simp, Or.inl ⟨rfl, fun _ => rfl⟩⟩

theorem Reads.at_u8 {w : World} {ao : Option Addr} {n c : Nat} {l : List UInt8} (h : Reads w (.slice ao n c) l) (k : Nat) (hk : k < l.length) : ∃ g o, ao = some ⟨g, o, none⟩ ∧ w.cell? ⟨g, o + k, none⟩ = some (.int .u8 ((l.getD k 0).toNat : Int)) := by
  obtain ⟨ao', c', e, hc, hcase⟩ := h
  simp only [Value.slice.injEq] at e
  obtain ⟨rfl, rfl, rfl⟩ := e
  rcases hcase with ⟨rfl, _⟩ | ⟨g, o, rfl, hg, hcell⟩
  · simp at hk
  · exact ⟨g, o, rfl, hcell k _ (by simp [cellsB, hk, List.getD])⟩

/-- Bytes that are read stay, where their block stays. -/
theorem Reads.kept {w w' : World} {s : Value} {l : List UInt8} (h : Reads w s l) (hsz : w.heap.size ≤ w'.heap.size) (hb : ∀ k, k < w.heap.size → s.ownBlock = some k → w'.heap[k]? = w.heap[k]?) : Reads w' s l := by
  obtain ⟨ao, c, rfl, hc, hcase⟩ := h
  refine ⟨ao, c, rfl, hc, ?_⟩
  rcases hcase with hn | ⟨g, o, rfl, hg, hcell⟩
  · exact Or.inl hn
  · refine Or.inr ⟨g, o, rfl, Nat.lt_of_lt_of_le hg hsz, fun j u hu => ?_⟩
    rw [World.cell?_of_block (w := w) (hb g hg rfl)]
    exact hcell j u hu

theorem Reads.below {w w' : World} {s : Value} {l : List UInt8} (h : Reads w s l) (hw : Below w.heap.size w w') : Reads w' s l :=
  h.kept hw.size fun k hk _ => hw.block k hk

theorem Reads.drewN {w : World} {s : Value} {l : List UInt8} (h : Reads w s l) (q : Nat) : Reads (w.drewN q) s l := h.kept (Nat.le_refl _) (fun _ _ _ => rfl)
theorem Reads.drew {w : World} {s : Value} {l : List UInt8} (h : Reads w s l) : Reads w.drew s l := h.kept (Nat.le_refl _) (fun _ _ _ => rfl)

theorem Reads.of_owns {w : World} {base : Nat} {s : Value} {l : List UInt8} (h : w.ownsRow base 5 1 s l.length (cellsB l)) : Reads w s l := by
  have hc := fun g => h.cells (g := g)
  rcases h.2 with ⟨rfl, e⟩ | ⟨g, cap, cur, rfl, hg, hgg, hn, _⟩
  · exact ⟨none, 0, by rw [e], by omega, Or.inl ⟨List.eq_nil_of_length_eq_zero e, fun _ => rfl⟩⟩
  · refine ⟨_, cap, rfl, hn, Or.inr ⟨g, 0, rfl, (Array.getElem?_eq_some_iff.1 hgg).1, fun j u hu => ?_⟩⟩
    have := hc g rfl j u hu
    simpa [Addr.add_lit] using this

/-- A text of bytes. -/
def txt (l : List UInt8) : ByteArray := ⟨l.toArray⟩
theorem txt_inj {a b : List UInt8} (h : txt a = txt b) : a = b := by
  simpa [txt] using h

theorem strOf_bytes (l : List UInt8) : strOfNums (l.map fun b => (b.toNat : Int)) = txt l := by
  unfold strOfNums txt
  congr 1
  simp only [List.map_map]
  congr 1
  conv => rhs; rw [← List.map_id l]
  refine List.map_congr_left (fun b _ => ?_)
  simp

/-- string(b). -/
theorem conv_reads {w : World} {s : Value} {l : List UInt8} (h : Reads w s l) : (convert 36 9 s).run Try.prog w = .ok (.string (txt l)) w := by
  obtain ⟨ao, c, rfl, hc, hcase⟩ := h
  rcases hcase with ⟨rfl, h0⟩ | ⟨g, o, rfl, hg, hcell⟩
  · rw [run_convert_bytes_string w 36 9 5 ao _ c Try.underlying36 Try.underlying5 Try.underlying9]
    cases ao <;> simp [Conv.bytesToString, loadCells]
    all_goals rfl
  · have := run_convert_bytes_arg (P := Try.prog) w 36 5 Try.underlying36 Try.underlying5 g o l.length c (l.map fun b => (b.toNat : Int)) (by simp) (fun i hi => by
      refine hcell i _ ?_
      simp [cellsB, List.getElem?_eq_getElem hi, List.getD]) 9 Try.underlying9
    rw [strOf_bytes] at this
    exact this

set_option maxHeartbeats 1000000 in
theorem Equal_any {w : World} {s t : Value} {l m : List UInt8} (hs : Reads w s l) (ht : Reads w t m) : Calls Try.prog 35 #[s, t] w fun e w' => e = .returned (.bool (decide (l = m))) ∧ w' = w := by
  have g1 := conv_reads hs
  have g2 := conv_reads ht
  obtain ⟨a1, c1, rfl⟩ := hs.form
  obtain ⟨a2, c2, rfl⟩ := ht.form
  have e : ((txt l).toList == (txt m).toList) = decide (l = m) := by
    rw [Lib.toList_data, Lib.toList_data]
    by_cases h : l = m
    · subst h; simp
    · have : ¬ (txt l).data = (txt m).data := fun e => h (by simpa [txt] using e)
      simp [h, this]
  generalize l.length = n1 at *
  generalize l = l1, m = m1 at *
  clear hs ht
  go_enter Try.func35, Try.ntmps35
  go_wp2
  go_ret
  exact ⟨by simp, rfl⟩

set_option maxHeartbeats 1000000 in
theorem Clone_any {w : World} {s : Value} {l : List UInt8} (hs : Reads w s l) (hl : l.length ≤ 140737488355328) : Calls Try.prog 44 #[s] w fun e w' => ∃ v, e = .returned v ∧ w'.ownsRow w.heap.size 5 1 v l.length (cellsB l) ∧ Below w.heap.size w w' := by
  obtain ⟨ao, c, rfl, hc, hcase⟩ := hs
  obtain ⟨i0, hi, hz0, hz1, hz2⟩ := info_parts Try.info5
  have t36 := Try.underlying36
  have q36 : ∀ (w : World) (a : Option Addr) (n c n' c' : Nat), (binOp .eql 36 (.slice a n c) (.slice none n' c')).run Try.prog w = .ok (.bool a.isNone) w := fun w a n c n' c' => Lib.run_eql_slice_nil w _ _ a n c n' c' Try.underlying36
  cases ao with
  | none =>
    have h0 : l = [] := by
      rcases hcase with h | ⟨g, o, e, _⟩
      · exact h.1
      · cases e
    subst h0
    go_enter Try.func44, Try.ntmps44
    go_wp2
    go_ret
    exact ⟨_, rfl, ⟨by simp [cellsB], Or.inl ⟨rfl, rfl⟩⟩, Below.refl _ _⟩
  | some a =>
    have A : Hid (∀ j u, (cellsB l)[j]? = some u → w.cell? (a.add j) = some u) := by
      rcases hcase with h | ⟨g, o, e, _, h⟩
      · exact hid (fun j u hu => by rw [h.1] at hu; simp [cellsB] at hu)
      · cases e
        exact hid (by simpa [Addr.add_lit] using h)
    have L : Hid (l.length ≤ 140737488355328) := hid hl
    have Q : Hid (cellsB l = cellsB l ∧ (cellsB l).length = l.length) := hid ⟨rfl, cellsB_length l⟩
    clear hcase hl hc
    have O := cellsB_one l
    obtain ⟨n, hn⟩ : ∃ n, Hid (n = l.length) := ⟨_, hid rfl⟩
    rw [← hn.out]
    generalize hxs : cellsB l = xs at *
    have Q2 : Hid (xs.length = n) := hid (by rw [hn.out]; exact Q.out.2)
    have L2 : Hid (n ≤ 140737488355328) := hid (by rw [hn.out]; exact L.out)
    clear hxs Q L hn
    go_enter Try.func44, Try.ntmps44
    go_wp2_with (at_builtin; refine wpList_append_own _ rfl _ _ 36 rfl w.heap.size 5 i0 (.int .u8 0) 1 1 t36 hi hz0 hz1 hz2 rfl (by decide) _ _ _ rfl (World.ownsRow_made w #[] 0 (Nat.le_refl _) (Nat.zero_le _) rfl) a n c xs rfl ?qc1 ?qc2 ?qc3 ?qc4 ?qc5 ?qc6 ?_)
    case qc1 => simp; exact Q2.out
    case qc2 =>
      intro j u hj
      exact Lib.cell?_alloc_some _ (A.out j u hj)
    case qc3 => exact O
    case qc4 => have := L2.out; unfold maxLen; omega
    case qc5 => have := L2.out; omega
    case qc6 => simp
    intro v' w1 hown hgrow hnil
    go_wp2
    go_ret
    refine ⟨v', rfl, ?_, ?_⟩
    · simpa using hown
    · exact ((Below.refl _ w).alloc (Nat.le_refl _) _).grown hgrow (by simp) (by intro k hk; simp [Value.ownBlock] at hk; omega)

end Go.Proofs.Ytaomhahmpbfjhaa

namespace Go.Proofs.Ytaomhahmpbfjhaa
open Go.RowKit
set_option linter.unusedVariables false

theorem wpList_append_run {P : Program} {w : World} {ops : Array Oper} {rest : List Oper} {o : Oper} {a : Act} {Q : Exit → Act → World → Prop} (hgd : o.guard = none) (s x : Operand) (t : TypeId)
    (ho : o.op = .call { callee := .builtin .append, args := #[s, x], argTypes := #[t, t] }) (v1 v2 v' : Value) (w' : World) (hs : a.eval s = v1) (hx : a.eval x = v2)
    (hr : (Builtin.append_ #[t, t] o.type #[v1, v2]).run P w = .ok v' w') (h : wpList P ops Q rest (a.put o.dst v') w') : wpList P ops Q (o :: rest) a w := by
  refine wpList_plain hgd fun K hK => ?_
  unfold Oper.wp execOp
  simp only [ho, resolve, invoke, builtin, Sem.run_bind, Sem.run_pure, Result.andThen_ok, List.map_toArray, List.map_cons, List.map_nil, hs, hx, hr]
  exact hK _ _ h
/-- An append, in a region that draws. -/
theorem step_append_run {P : Program} {w : World} {ops : Array Oper} {o : Oper} {a : Act} {K : Act → World → Prop} {Q : Exit → Act → World → Prop} {E : Prop} (hgd : o.guard = none) (s x : Operand) (t : TypeId)
    (ho : o.op = .call { callee := .builtin .append, args := #[s, x], argTypes := #[t, t] }) (v1 v2 v' : Value) (w' : World) (hs : a.eval s = v1) (hx : a.eval x = v2)
    (hr : (Builtin.append_ #[t, t] o.type #[v1, v2]).run P w = .ok v' w') (h : K (a.put o.dst v') w') :
    if Region.wanted o (yielded ops a.tmps) = true then Oper.wp P o a w K Q else E := by
  have hw : Region.wanted o (yielded ops a.tmps) = true := by simp [Region.wanted, hgd]
  rw [if_pos hw]
  unfold Oper.wp execOp
  simp only [ho, resolve, invoke, builtin, Sem.run_bind, Sem.run_pure, Result.andThen_ok, List.map_toArray, List.map_cons, List.map_nil, hs, hx, hr]
  exact h

theorem app_byte {W : World} {K : Nat} {s : Int} {v : Value} {l : List Value} {cs : List Comp} (A : All (ownC 5 v l :: cs) W) (hK : W.heap[K]? = some (.cells #[.int .u8 s] 5 (0, 0))) (hlen : l.length ≤ 140737488355327) :
    ∃ ao c w', (Builtin.append_ #[36, 36] 36 #[v, .slice (some ⟨K, 0, none⟩) 1 1]).run Try.prog W = .ok (.slice ao (l.length + 1) c) w' ∧ All (ownC 5 (.slice ao (l.length + 1) c) (l ++ [.int .u8 s]) :: cs) w' := by
  obtain ⟨i1, hi1, hz0, hz1, hz2⟩ := info_parts Try.info5
  have h1c : ∀ u ∈ [Value.int .u8 s], u.oneCell' = true := fun u hu => by
    rw [List.mem_singleton.1 hu]
    rfl
  obtain ⟨v', w', hr, h2, h3, h4, h5⟩ := run_append_own_at (P := Try.prog) W 0 36 36 5 i1 _ 1 1 Try.underlying36 hi1 hz0 hz1 hz2 rfl (by decide) v l.length l A.1.2.1 ⟨K, 0, none⟩ 1 1 [.int .u8 s] rfl
    (fun j u hu => by rw [Addr.add_lit, Nat.zero_add, cell_at hK]; exact (List.getElem?_toArray (xs := [Value.int .u8 s]) ..).trans hu) h1c (by unfold maxLen; omega) (by omega) (by omega)
  obtain ⟨ao, c, rfl⟩ := owns_form h2
  exact ⟨ao, c, w', hr, A.ownGrow (vs' := l ++ [.int .u8 s]) (by rw [List.length_append]; exact h2) h3 h5⟩
theorem All.ownPut {e : TypeId} {g n c j : Nat} {vs : List Value} {u : Value} {cs : List Comp} {w : World} (h : All (ownC e (.slice (some ⟨g, 0, none⟩) n c) vs :: cs) w) : All (ownC e (.slice (some ⟨g, 0, none⟩) n c) (vs.set j u) :: cs) (w.setCell ⟨g, j, none⟩ u) := by
  have ho : w.ownsRow 0 e 1 (.slice (some ⟨g, 0, none⟩) n c) vs.length vs := h.1.2.1
  have hn : n = vs.length := (owns_len ho).1
  subst hn
  have hs := (World.ownsRow.stored ho j u).1
  refine h.turn (Fr.setCell w g j _) (ownC_good _ _ _) (by show World.ownsRow _ _ _ _ _ _ _; rw [List.length_set]; exact hs) (Gr.refl _ _) (fun k' hk' => ?_)
  have := h.1.2.2 k' hk'
  simpa [World.setCell] using this

theorem rep_set {α : Type} (m : α) (i : Nat) (l : List α) (hi : i < l.length) : (List.replicate i m ++ l.drop i).set i m = List.replicate (i + 1) m ++ l.drop (i + 1) := by
  rw [List.set_append_right _ _ (by simp), List.length_replicate, Nat.sub_self, List.drop_eq_getElem_cons hi, List.set_cons_zero, List.replicate_succ', List.append_assoc]
  rfl

set_option maxHeartbeats 1600000 in
set_option maxRecDepth 1000000 in
theorem spoil_any {v : Value} {l : List Value} {cs : List Comp} {w : World} (hA : All (ownC 5 v l :: cs) w) (s : Int) (hl : l.length ≤ 140737488355318) : Calls Try.prog 26 #[v, .int .u8 s] w fun e w' => ∃ ao c, e = .returned (.slice ao (l.length + 9) c) ∧ All (ownC 5 (.slice ao (l.length + 9) c) (List.replicate (l.length + 9) (.int .u8 s)) :: cs) w' := by
  obtain ⟨ao, c, hv⟩ := owns_form hA.1.2.1
  subst hv
  have A0 : Hid (All (ownC 5 (.slice ao l.length c) (List.replicate 0 (.int .u8 s) ++ l.drop 0) :: cs) w) := hid (by
    simp only [List.replicate_zero, List.nil_append, List.drop_zero]
    exact hA)
  clear hA
  go_enter Try.func26, Try.ntmps26
  go_wp2_with fail
  go_loopw [8] (fun iv wr => ∃ (i : Nat), i ≤ l.length ∧ iv = .int .i64 (i : Int) ∧ Hid (All (ownC 5 (.slice ao l.length c) (List.replicate i (.int .u8 s) ++ l.drop i) :: cs) wr)) (fun iv _ => l.length - (intOf iv).toNat)
  case atStart => exact ⟨0, by omega, rfl, A0⟩
  case round =>
    clear A0
    obtain ⟨i, hi, rfl, A1⟩ := hrel
    by_cases hlt : i < l.length
    · have m1 : decide ((i : Int) < (l.length : Int)) = true := decide_eq_true (by omega)
      have m2 : (i : Int) < (l.length : Int) := by omega
      have hll : (List.replicate i (Value.int .u8 s) ++ l.drop i).length = l.length := by simp; omega
      obtain ⟨x, hx⟩ : ∃ x, (List.replicate i (Value.int .u8 s) ++ l.drop i)[i]? = some x := ⟨_, List.getElem?_eq_getElem (by omega)⟩
      obtain ⟨g, rfl, hg, hf⟩ := owns_at A1.out.1.2.1 hx
      have A2 : Hid (All (ownC 5 (.slice (some ⟨g, 0, none⟩) l.length c) (List.replicate (i + 1) (.int .u8 s) ++ l.drop (i + 1)) :: cs) (wr.setCell ⟨g, i, none⟩ (.int .u8 s))) := hid (by
        have := A1.out.ownPut (j := i) (u := .int .u8 s)
        rw [rep_set _ i l hlt] at this
        exact this)
      clear A1 hx hll
      go_wp2
      go_roundw
      case rel => exact ⟨i + 1, by omega, by go_num, A2⟩
      case measure => simp [intOf]; omega
    · have m1 : decide ((i : Int) < (l.length : Int)) = false := decide_eq_false (by omega)
      have m2 : ¬ (i : Int) < (l.length : Int) := by omega
      have A2 : Hid (All (ownC 5 (.slice ao (l.length + 0) c) (List.replicate (l.length + 0) (.int .u8 s)) :: cs) wr) := hid (by
        have h := A1.out
        rw [show i = l.length by omega, List.drop_of_length_le (Nat.le_refl _), List.append_nil] at h
        exact h)
      clear A1
      go_wp2_with fail
      generalize hj3 : Value.int IntKind.i64 (i : Int) = j3
      clear hj3 m1 m2 hlt hi
      go_loopw [0, 16] (fun ov iv wr => ∃ (j : Nat), j ≤ 9 ∧ iv = .int .i64 (j : Int) ∧ Hid ((∃ oa oc, ov = .slice oa (l.length + j) oc) ∧ All (ownC 5 ov (List.replicate (l.length + j) (.int .u8 s)) :: cs) wr)) (fun _ iv _ => 9 - (intOf iv).toNat)
      case atStart => exact ⟨0, by omega, rfl, hid ⟨⟨_, _, rfl⟩, A2.out⟩⟩
      case round =>
        clear A2
        obtain ⟨j, hj, rfl, A3⟩ := hrel
        obtain ⟨⟨oa, oc, rfl⟩, A3'⟩ := A3.out
        have A3 := hid A3'
        clear A3'
        by_cases hj5 : j < 9
        · have q1 : decide ((j : Int) < 9) = true := decide_eq_true (by omega)
          have q2 : (j : Int) < 9 := by omega
          have hKK : (wr.alloc (.cells #[.int .u8 s] 5)).heap[wr.heap.size]? = some (.cells #[.int .u8 s] 5 (0, 0)) := heap_alloc_new wr _
          have hLL : (List.replicate (l.length + j) (Value.int .u8 s)).length = l.length + j := List.length_replicate
          obtain ⟨ao4, c4, w4, hr4, B4⟩ := app_byte (A3.out.alloc (.cells #[.int .u8 s] 5)) hKK (by rw [hLL]; omega)
          rw [hLL] at hr4 B4
          have HR4 := hid hr4
          have A5 : Hid (All (ownC 5 (.slice ao4 (l.length + (j + 1)) c4) (List.replicate (l.length + (j + 1)) (.int .u8 s)) :: cs) w4) := hid (by
            rw [← List.replicate_succ'] at B4
            exact B4)
          clear A3 hr4 B4 hKK hLL
          go_wp2_with (at_builtin; refine wpList_append_run rfl (.tmp 18) (.tmp 20) 36 rfl _ _ _ _ rfl rfl HR4.out ?_)
          go_roundw
          case rel => exact ⟨j + 1, by omega, by go_num, hid ⟨⟨_, _, rfl⟩, A5.out⟩⟩
          case measure => simp [intOf]; omega
        · have q1 : decide ((j : Int) < 9) = false := decide_eq_false (by omega)
          have q2 : ¬ (j : Int) < 9 := by omega
          have hj' : Hid (j = 9) := hid (by omega)
          have A5 := hid A3.out
          rw [hj'.out] at A5 ⊢
          clear A3
          go_wp2
          go_ret
          exact ⟨oa, oc, rfl, A5.out⟩
end Go.Proofs.Ytaomhahmpbfjhaa

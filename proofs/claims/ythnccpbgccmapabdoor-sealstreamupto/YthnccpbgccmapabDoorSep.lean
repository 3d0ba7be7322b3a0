import Derived.Test.YthnccpbgccmapabDoorSumLaw
import Derived.Laws.CopyOwn
namespace Go.Proofs.YthnccpbgccmapabDoor
open Go.RowKit
set_option linter.unusedVariables false

/-- New blocks, or old ones of a list. -/
def Gr (F F' : List Nat) (n : Nat) : Prop := ∀ k ∈ F', k ∈ F ∨ n ≤ k

theorem Fr.mono {F G : List Nat} {w w' : World} (h : Fr F w w') (hs : ∀ k ∈ F, k ∈ G) : Fr G w w' := ⟨h.os, h.tape, h.output, h.size, fun k hk hG => h.block k hk (fun hF => hG (hs k hF))⟩
theorem Fr.trans {F G : List Nat} {w w1 w2 : World} (h : Fr F w w1) (k : Fr G w1 w2) (hg : Gr F G w.heap.size) : Fr F w w2 :=
  ⟨k.os.trans h.os, k.tape.trans h.tape, k.output.trans h.output, Nat.le_trans h.size k.size, fun i hi hF => by
    rw [k.block i (Nat.lt_of_lt_of_le hi h.size) (fun hG => ?_), h.block i hi hF]
    rcases hg i hG with e | e
    · exact hF e
    · omega⟩
theorem Fr.below {F : List Nat} {w w' : World} (h : Below w.heap.size w w') : Fr F w w' := ⟨h.os, h.tape, h.output, h.size, fun k hk _ => h.block k hk⟩
theorem Fr.toBelow {w w' : World} (h : Fr [] w w') : Below w.heap.size w w' := ⟨h.os, h.tape, h.output, h.size, fun k hk => h.block k hk (by simp)⟩
theorem Fr.setCell (w : World) (b j : Nat) (u : Value) : Fr [b] w (w.setCell ⟨b, j, none⟩ u) :=
  ⟨rfl, rfl, rfl, by simp [World.setCell], fun k _ hb => Below.heap_setCell _ _ _ _ (by simpa using hb)⟩
theorem Gr.refl (F : List Nat) (n : Nat) : Gr F F n := fun k hk => Or.inl hk

/-- A part of the memory that is known. -/
structure Comp where
  holds : World → Prop
  fp : List Nat

/-- A later world, as far as it is not memory. -/
structure Later (w w' : World) : Prop where
  os : w'.os = w.os
  tape : w'.tape = w.tape
  output : w'.output = w.output
  size : w.heap.size ≤ w'.heap.size

/-- It hangs on its own blocks alone. -/
def Comp.Good (c : Comp) : Prop := ∀ w w', c.holds w → Later w w' → (∀ k ∈ c.fp, w'.heap[k]? = w.heap[k]?) → c.holds w'

def Disj (F G : List Nat) : Prop := ∀ k ∈ F, k ∉ G
theorem Disj.symm {F G : List Nat} (h : Disj F G) : Disj G F := fun k hk hF => h k hF hk

/-- Parts that have nothing in common. -/
def All : List Comp → World → Prop
  | [], _ => True
  | c :: cs, w => (c.Good ∧ c.holds w ∧ ∀ k ∈ c.fp, k < w.heap.size) ∧ (∀ d ∈ cs, Disj c.fp d.fp) ∧ All cs w

theorem All.mem {cs : List Comp} {w : World} (h : All cs w) {c : Comp} (hc : c ∈ cs) : c.Good ∧ c.holds w ∧ ∀ k ∈ c.fp, k < w.heap.size := by
  induction cs with
  | nil => cases hc
  | cons d cs ih =>
    rcases List.mem_cons.1 hc with rfl | hc
    · exact h.1
    · exact ih h.2.2 hc

/-- Parts that were not touched. -/
theorem All.kept {cs : List Comp} {w w' : World} {F : List Nat} (h : All cs w) (hf : Fr F w w') (hd : ∀ d ∈ cs, Disj F d.fp) : All cs w' := by
  induction cs with
  | nil => exact trivial
  | cons c cs ih =>
    obtain ⟨⟨hg, hh, hlt⟩, hdj, hr⟩ := h
    refine ⟨⟨hg, hg w w' hh ⟨hf.os, hf.tape, hf.output, hf.size⟩ (fun k hk => hf.block k (hlt k hk) (fun hF => hd c (by simp) k hF hk)), fun k hk => Nat.lt_of_lt_of_le (hlt k hk) hf.size⟩, hdj, ih hr (fun d hd' => hd d (by simp [hd']))⟩

/-- The first part is turned. -/
theorem All.turn {c c' : Comp} {cs : List Comp} {w w' : World} (h : All (c :: cs) w) (hf : Fr c.fp w w') (hg : c'.Good) (hh : c'.holds w') (hgr : Gr c.fp c'.fp w.heap.size) (hlt : ∀ k ∈ c'.fp, k < w'.heap.size) : All (c' :: cs) w' := by
  refine ⟨⟨hg, hh, hlt⟩, fun d hd k hk hkd => ?_, h.2.2.kept hf h.2.1⟩
  rcases hgr k hk with e | e
  · exact h.2.1 d hd k e hkd
  · have := (h.2.2.mem hd).2.2 k hkd; omega

/-- A new part. -/
theorem All.add {c : Comp} {cs : List Comp} {w w' : World} (h : All cs w) (hf : Fr [] w w') (hg : c.Good) (hh : c.holds w') (hnew : ∀ k ∈ c.fp, w.heap.size ≤ k ∧ k < w'.heap.size) : All (c :: cs) w' := by
  refine ⟨⟨hg, hh, fun k hk => (hnew k hk).2⟩, fun d hd k hk hkd => ?_, h.kept hf (fun d _ k hk => by cases hk)⟩
  have := (h.mem hd).2.2 k hkd
  have := (hnew k hk).1
  omega

theorem All.later {cs : List Comp} {w w' : World} (h : All cs w) (hb : Below w.heap.size w w') : All cs w' := h.kept (Fr.below (F := []) hb) (fun d _ k hk => by cases hk)

theorem All.swap {c d : Comp} {cs : List Comp} {w : World} (h : All (c :: d :: cs) w) : All (d :: c :: cs) w := by
  obtain ⟨h1, h2, h3, h4, h5⟩ := h
  refine ⟨h3, fun x hx => ?_, h1, fun x hx => h2 x (by simp [hx]), h5⟩
  rcases List.mem_cons.1 hx with rfl | hx
  · exact (h2 d (by simp)).symm
  · exact h4 x hx

theorem All.perm {cs ds : List Comp} {w : World} (p : cs.Perm ds) (h : All cs w) : All ds w := by
  induction p with
  | nil => exact h
  | cons x _ ih =>
    rename_i l1 l2 hp
    exact ⟨h.1, fun d hd => h.2.1 d (hp.mem_iff.2 hd), ih h.2.2⟩
  | swap x y l => exact h.swap
  | trans _ _ ih1 ih2 => exact ih2 (ih1 h)

theorem All.tail {c : Comp} {cs : List Comp} {w : World} (h : All (c :: cs) w) : All cs w := h.2.2

/-- What came in. -/
def inC (w0 : World) : Comp := ⟨fun w => Below w0.heap.size w0 w, List.range w0.heap.size⟩

theorem inC_good (w0 : World) : (inC w0).Good := by
  intro w w' h hs hb
  have h' : Below w0.heap.size w0 w := h
  exact ⟨hs.os.trans h'.os, hs.tape.trans h'.tape, hs.output.trans h'.output, Nat.le_trans h'.size hs.size, fun k hk => (hb k (List.mem_range.2 hk)).trans (h'.block k hk)⟩

theorem All.came (w : World) : All [inC w] w := ⟨⟨inC_good w, Below.refl _ _, fun k hk => List.mem_range.1 hk⟩, ⟨fun d hd => (by cases hd), trivial⟩⟩

/-- Bytes of one's own. -/
def rowC (v : Value) (l : List UInt8) : Comp := ⟨fun w => w.ownsRow 0 5 1 v l.length (cellsB l), v.ownBlock.toList⟩

theorem rowC_good (v : Value) (l : List UInt8) : (rowC v l).Good := by
  intro w w' h hs hb
  exact ⟨h.1, by
    rcases h.2 with hn | ⟨g, cap, cur, rfl, hg, hgg, rest⟩
    · exact Or.inl hn
    · exact Or.inr ⟨g, cap, cur, rfl, hg, by rw [hb g (by simp [rowC, Value.ownBlock])]; exact hgg, rest⟩⟩

/-- A list that was just made. -/
theorem All.addRow {cs : List Comp} {w w' : World} {v : Value} {l : List UInt8} (h : All cs w) (hb : Below w.heap.size w w') (ho : w'.ownsRow w.heap.size 5 1 v l.length (cellsB l)) : All (rowC v l :: cs) w' := by
  refine h.add (Fr.below hb) (rowC_good v l) (owns_zero ho) (fun k hk => ?_)
  have hk' : v.ownBlock = some k := by simpa [rowC] using hk
  exact World.ownsRow.lt ho k hk'

end Go.Proofs.YthnccpbgccmapabDoor

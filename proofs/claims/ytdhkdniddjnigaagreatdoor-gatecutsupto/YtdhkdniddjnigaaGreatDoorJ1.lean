import Derived.Test.YtdhkdniddjnigaaGreatDoorRows
import Derived.WalkKit
import Derived.WalkSpells
import Derived.WalkLawsBesides
import Derived.Maps.AppendAt
import Derived.Laws.AppendOwnNone
import Derived.Laws.BitsAllLaws
import Derived.Deep.Draws
import Derived.ArgAppend
import Derived.Deep.RegionLaw
import Derived.Deep.RegionWith
import Derived.Deep.DrawnRows
import Derived.Deep.AppendLies
import Derived.WalkMore
import Derived.Deep.LoopGhost
import Derived.Deep.Upon
import Derived.Deep.QuietTactic
import Derived.BigQuiet
import Derived.Laws.Rows
import Derived.Deep.MidRow
import Derived.Deep.RegionHeld3
import Derived.Deep.DeepCutAuto
import Derived.Lib.Strings
import Derived.Lib.ItoaNum
import Derived.Lib.AtoiAll
import Derived.Shelf.Strconv.ErrVarAll
import Derived.Shelf.Strconv.Itoa3
import Derived.Test.YtdhkdniddjnigaaGreatDoorProg
import Derived.Lib.AtoiAllCases
namespace Go.Proofs.YtdhkdniddjnigaaGreatDoor
open Go.RowKit
set_option linter.unusedVariables false

theorem hid {p : Prop} (h : p) : Hid p := h

theorem cell_at {w : World} {b : Nat} {cs : Array Value} {t : TypeId} {fr : Nat × Nat} (h : w.heap[b]? = some (.cells cs t fr)) (j : Nat) : w.cell? ⟨b, j, none⟩ = cs[j]? := by
  simp [World.cell?, h]

theorem free_at {w : World} {b : Nat} {cs : Array Value} {t : TypeId} (h : w.heap[b]? = some (.cells cs t (0, 0))) (j : Nat) : w.frozen? ⟨b, j, none⟩ = false := by
  simp [World.frozen?, h]

theorem heap_setCell_same {w : World} {b j : Nat} {cs : Array Value} {t : TypeId} {fr : Nat × Nat} (h : w.heap[b]? = some (.cells cs t fr)) (u : Value) :
    (w.setCell ⟨b, j, none⟩ u).heap[b]? = some (.cells (cs.setIfInBounds j u) t fr) := by
  simp [World.setCell, Array.getElem?_modify, h]

theorem owns_form {w : World} {base : Nat} {e : TypeId} {size : Nat} {v : Value} {n : Nat} {xs : List Value} (h : w.ownsRow base e size v n xs) : ∃ ao cap, v = .slice ao n cap := by
  rcases h.2 with ⟨rfl, e⟩ | ⟨g, cap, _, rfl, _⟩
  · exact ⟨none, 0, by rw [e]⟩
  · exact ⟨_, cap, rfl⟩

theorem owns_zero {w : World} {base : Nat} {e : TypeId} {size : Nat} {v : Value} {n : Nat} {xs : List Value} (h : w.ownsRow base e size v n xs) : w.ownsRow 0 e size v n xs := by
  refine ⟨h.1, ?_⟩
  rcases h.2 with hn | ⟨g, cap, cur, rfl, hg, rest⟩
  · exact Or.inl hn
  · exact Or.inr ⟨g, cap, cur, rfl, by omega, rest⟩

/-- Of what was there nothing has turned but the blocks of a list. -/
structure Fr (F : List Nat) (w w' : World) : Prop where
  os : w'.os = w.os
  tape : w'.tape = w.tape
  output : w'.output = w.output
  size : w.heap.size ≤ w'.heap.size
  block : ∀ k, k < w.heap.size → k ∉ F → w'.heap[k]? = w.heap[k]?

theorem Fr.refl (F : List Nat) (w : World) : Fr F w w := ⟨rfl, rfl, rfl, Nat.le_refl _, fun _ _ _ => rfl⟩

/-- New blocks, or old ones of a list. -/
def Gr (F F' : List Nat) (n : Nat) : Prop := ∀ k ∈ F', k ∈ F ∨ n ≤ k

theorem Fr.mono {F G : List Nat} {w w' : World} (h : Fr F w w') (hs : ∀ k ∈ F, k ∈ G) : Fr G w w' := ⟨h.os, h.tape, h.output, h.size, fun k hk hG => h.block k hk (fun hF => hG (hs k hF))⟩
theorem Fr.trans {F G : List Nat} {w w1 w2 : World} (h : Fr F w w1) (k : Fr G w1 w2) (hg : Gr F G w.heap.size) : Fr F w w2 :=
  ⟨k.os.trans h.os, k.tape.trans h.tape, k.output.trans h.output, Nat.le_trans h.size k.size, fun i hi hF => by
    rw [k.block i (Nat.lt_of_lt_of_le hi h.size) (fun hG => ?_), h.block i hi hF]
    rcases hg i hG with e | e
    · exact hF e
    · omega⟩
theorem Fr.below {F : List Nat} {w w' : World} (h : Below w.heap.size w w') : Fr F w w' := ⟨h.os, h.tape, h.output, h.size, fun k hk _ => h.block k hk⟩
theorem Fr.toBelow {w w' : World} (h : Fr [] w w') : Below w.heap.size w w' := ⟨h.os, h.tape, h.output, h.size, fun k hk => h.block k hk (by simp)⟩
theorem Fr.setCell (w : World) (b j : Nat) (u : Value) : Fr [b] w (w.setCell ⟨b, j, none⟩ u) :=
  ⟨rfl, rfl, rfl, by simp [World.setCell], fun k _ hb => Below.heap_setCell _ _ _ _ (by simpa using hb)⟩
theorem Gr.refl (F : List Nat) (n : Nat) : Gr F F n := fun k hk => Or.inl hk

/-- A part of the memory that is known. -/
structure Comp where
  holds : World → Prop
  fp : List Nat

/-- A later world, as far as it is not memory. -/
structure Later (w w' : World) : Prop where
  os : w'.os = w.os
  tape : w'.tape = w.tape
  output : w'.output = w.output
  size : w.heap.size ≤ w'.heap.size

/-- It hangs on its own blocks alone. -/
def Comp.Good (c : Comp) : Prop := ∀ w w', c.holds w → Later w w' → (∀ k ∈ c.fp, w'.heap[k]? = w.heap[k]?) → c.holds w'

def Disj (F G : List Nat) : Prop := ∀ k ∈ F, k ∉ G
theorem Disj.symm {F G : List Nat} (h : Disj F G) : Disj G F := fun k hk hF => h k hF hk

/-- Parts that have nothing in common. -/
def All : List Comp → World → Prop
  | [], _ => True
  | c :: cs, w => (c.Good ∧ c.holds w ∧ ∀ k ∈ c.fp, k < w.heap.size) ∧ (∀ d ∈ cs, Disj c.fp d.fp) ∧ All cs w

theorem All.mem {cs : List Comp} {w : World} (h : All cs w) {c : Comp} (hc : c ∈ cs) : c.Good ∧ c.holds w ∧ ∀ k ∈ c.fp, k < w.heap.size := by
  induction cs with
  | nil => cases hc
  | cons d cs ih =>
    rcases List.mem_cons.1 hc with rfl | hc
    · exact h.1
    · exact ih h.2.2 hc

/-- Parts that were not touched. -/
theorem All.kept {cs : List Comp} {w w' : World} {F : List Nat} (h : All cs w) (hf : Fr F w w') (hd : ∀ d ∈ cs, Disj F d.fp) : All cs w' := by
  induction cs with
  | nil => exact trivial
  | cons c cs ih =>
    obtain ⟨⟨hg, hh, hlt⟩, hdj, hr⟩ := h
    refine ⟨⟨hg, hg w w' hh ⟨hf.os, hf.tape, hf.output, hf.size⟩ (fun k hk => hf.block k (hlt k hk) (fun hF => hd c (by simp) k hF hk)), fun k hk => Nat.lt_of_lt_of_le (hlt k hk) hf.size⟩, hdj, ih hr (fun d hd' => hd d (by simp [hd']))⟩

/-- The first part is turned. -/
theorem All.turn {c c' : Comp} {cs : List Comp} {w w' : World} (h : All (c :: cs) w) (hf : Fr c.fp w w') (hg : c'.Good) (hh : c'.holds w') (hgr : Gr c.fp c'.fp w.heap.size) (hlt : ∀ k ∈ c'.fp, k < w'.heap.size) : All (c' :: cs) w' := by
  refine ⟨⟨hg, hh, hlt⟩, fun d hd k hk hkd => ?_, h.2.2.kept hf h.2.1⟩
  rcases hgr k hk with e | e
  · exact h.2.1 d hd k e hkd
  · have := (h.2.2.mem hd).2.2 k hkd; omega

/-- A new part. -/
theorem All.add {c : Comp} {cs : List Comp} {w w' : World} (h : All cs w) (hf : Fr [] w w') (hg : c.Good) (hh : c.holds w') (hnew : ∀ k ∈ c.fp, w.heap.size ≤ k ∧ k < w'.heap.size) : All (c :: cs) w' := by
  refine ⟨⟨hg, hh, fun k hk => (hnew k hk).2⟩, fun d hd k hk hkd => ?_, h.kept hf (fun d _ k hk => by cases hk)⟩
  have := (h.mem hd).2.2 k hkd
  have := (hnew k hk).1
  omega

theorem All.later {cs : List Comp} {w w' : World} (h : All cs w) (hb : Below w.heap.size w w') : All cs w' := h.kept (Fr.below (F := []) hb) (fun d _ k hk => by cases hk)

theorem All.swap {c d : Comp} {cs : List Comp} {w : World} (h : All (c :: d :: cs) w) : All (d :: c :: cs) w := by
  obtain ⟨h1, h2, h3, h4, h5⟩ := h
  refine ⟨h3, fun x hx => ?_, h1, fun x hx => h2 x (by simp [hx]), h5⟩
  rcases List.mem_cons.1 hx with rfl | hx
  · exact (h2 d (by simp)).symm
  · exact h4 x hx

theorem All.perm {cs ds : List Comp} {w : World} (p : cs.Perm ds) (h : All cs w) : All ds w := by
  induction p with
  | nil => exact h
  | cons x _ ih =>
    rename_i l1 l2 hp
    exact ⟨h.1, fun d hd => h.2.1 d (hp.mem_iff.2 hd), ih h.2.2⟩
  | swap x y l => exact h.swap
  | trans _ _ ih1 ih2 => exact ih2 (ih1 h)

theorem All.tail {c : Comp} {cs : List Comp} {w : World} (h : All (c :: cs) w) : All cs w := h.2.2

/-- What came in. -/
def inC (w0 : World) : Comp := ⟨fun w => Below w0.heap.size w0 w, List.range w0.heap.size⟩

theorem inC_good (w0 : World) : (inC w0).Good := by
  intro w w' h hs hb
  have h' : Below w0.heap.size w0 w := h
  exact ⟨hs.os.trans h'.os, hs.tape.trans h'.tape, hs.output.trans h'.output, Nat.le_trans h'.size hs.size, fun k hk => (hb k (List.mem_range.2 hk)).trans (h'.block k hk)⟩

theorem All.came (w : World) : All [inC w] w := ⟨⟨inC_good w, Below.refl _ _, fun k hk => List.mem_range.1 hk⟩, ⟨fun d hd => (by cases hd), trivial⟩⟩

theorem Fr.set {F : List Nat} {w w' : World} (h : Fr F w w') (b j : Nat) (v : Value) (hb : b ∈ F) : Fr F w (w'.setCell ⟨b, j, none⟩ v) :=
  ⟨h.os, h.tape, h.output, by simpa [World.setCell] using h.size, fun k hk hF => (Below.heap_setCell _ _ _ _ (by intro e; exact hF (by rw [show k = b from e]; exact hb))).trans (h.block k hk hF)⟩
theorem Fr.drewN {F : List Nat} {w w' : World} (h : Fr F w w') (q : Nat) : Fr F w (w'.drewN q) := ⟨h.os, h.tape, h.output, h.size, h.block⟩
theorem Fr.drew {F : List Nat} {w w' : World} (h : Fr F w w') : Fr F w w'.drew := ⟨h.os, h.tape, h.output, h.size, h.block⟩
theorem Fr.trans' {F : List Nat} {w w1 w2 : World} (h : Fr F w w1) (k : Fr F w1 w2) : Fr F w w2 :=
  ⟨k.os.trans h.os, k.tape.trans h.tape, k.output.trans h.output, Nat.le_trans h.size k.size, fun i hi hF => (k.block i (Nat.lt_of_lt_of_le hi h.size) hF).trans (h.block i hi hF)⟩
theorem ba (w : World) (o : Obj) : Below w.heap.size w (w.alloc o) := (Below.refl _ _).alloc (Nat.le_refl _) _
theorem bdN (w : World) (q : Nat) : Below w.heap.size w (w.drewN q) := ⟨rfl, rfl, rfl, Nat.le_refl _, fun _ _ => rfl⟩
theorem bd (w : World) : Below w.heap.size w w.drew := ⟨rfl, rfl, rfl, Nat.le_refl _, fun _ _ => rfl⟩
theorem All.drew {cs : List Comp} {w : World} (h : All cs w) : All cs w.drew := h.later (bd w)
theorem All.drewN {cs : List Comp} {w : World} (h : All cs w) (q : Nat) : All cs (w.drewN q) := h.later (bdN w q)
theorem All.alloc {cs : List Comp} {w : World} (h : All cs w) (o : Obj) : All cs (w.alloc o) := h.later (ba w o)
theorem All.mid {xs bs : List Comp} {c : Comp} {w : World} (h : All (xs ++ c :: bs) w) : All (xs ++ bs) w := (h.perm List.perm_middle).tail
theorem All.into {cs : List Comp} {w w0 : World} (h : All cs w) (hin : inC w0 ∈ cs) : Below w0.heap.size w0 w := (h.mem hin).2.1
theorem grown_fr {w w1 : World} {row : Option Nat} (h : w.grownBy w1 row) : Fr row.toList w w1 :=
  ⟨h.os, h.tape, h.output, h.size, fun k hk hF => h.block k hk (fun e => hF (by simp [← e]))⟩
theorem cell_under {w w' : World} (hb : Below w.heap.size w w') {g j : Nat} (hg : g < w.heap.size) {u : Value} (h : w.cell? ⟨g, j, none⟩ = some u) : w'.cell? ⟨g, j, none⟩ = some u := by
  rw [← h]
  unfold World.cell?
  rw [hb.block g hg]

/-- A block, just so. -/
def blkC (g : Nat) (vs : List Value) (t : TypeId) : Comp := ⟨fun w => w.heap[g]? = some (.cells vs.toArray t (0, 0)), [g]⟩
theorem blkC_good (g : Nat) (vs : List Value) (t : TypeId) : (blkC g vs t).Good := fun w w' h _ hb => (hb g (by simp [blkC])).trans h
theorem All.addBlk {cs : List Comp} {w : World} (h : All cs w) (vs : List Value) (t : TypeId) : All (blkC w.heap.size vs t :: cs) (w.alloc (.cells vs.toArray t)) := by
  refine h.add (Fr.below (ba w _)) (blkC_good _ _ _) (heap_alloc_new w _) (fun k hk => ?_)
  have : k = w.heap.size := by simpa [blkC] using hk
  subst this
  exact ⟨Nat.le_refl _, by simp⟩
theorem All.setBlk {g : Nat} {vs : List Value} {t : TypeId} {cs : List Comp} {w : World} (h : All (blkC g vs t :: cs) w) (j : Nat) (u : Value) : All (blkC g (vs.set j u) t :: cs) (w.setCell ⟨g, j, none⟩ u) := by
  have hg : w.heap[g]? = some (.cells vs.toArray t (0, 0)) := h.1.2.1
  refine h.turn (Fr.setCell w g j u) (blkC_good _ _ _) ?_ (fun k hk => Or.inl hk) (fun k hk => ?_)
  · have := heap_setCell_same (j := j) hg u
    simpa [blkC] using this
  · have : k = g := by simpa [blkC] using hk
    subst this
    simpa [World.setCell] using h.1.2.2 k (by simp [blkC])
theorem All.blk {g : Nat} {vs : List Value} {t : TypeId} {cs : List Comp} {w : World} (h : All cs w) (hm : blkC g vs t ∈ cs) : w.heap[g]? = some (.cells vs.toArray t (0, 0)) := (h.mem hm).2.1

/-- A row of one's own. -/
def ownC (e : TypeId) (v : Value) (vs : List Value) : Comp := ⟨fun w => w.ownsRow 0 e 1 v vs.length vs, v.ownBlock.toList⟩
theorem ownC_good (e : TypeId) (v : Value) (vs : List Value) : (ownC e v vs).Good := by
  intro w w' h hs hb
  exact ⟨h.1, by
    rcases h.2 with hn | ⟨g, cap, cur, rfl, hg, hgg, rest⟩
    · exact Or.inl hn
    · exact Or.inr ⟨g, cap, cur, rfl, hg, by rw [hb g (by simp [ownC, Value.ownBlock])]; exact hgg, rest⟩⟩
theorem All.addOwn {e : TypeId} {cs : List Comp} {w w' : World} {v : Value} {l : List Value} (h : All cs w) (hb : Below w.heap.size w w') (ho : w'.ownsRow w.heap.size e 1 v l.length l) : All (ownC e v l :: cs) w' := by
  refine h.add (Fr.below hb) (ownC_good e v l) (owns_zero ho) (fun k hk => ?_)
  have hk' : v.ownBlock = some k := by simpa [ownC] using hk
  exact World.ownsRow.lt ho k hk'
theorem All.addNil {e : TypeId} {cs : List Comp} {w : World} (h : All cs w) : All (ownC e (.slice none 0 0) [] :: cs) w :=
  ⟨⟨ownC_good _ _ _, ⟨by simp, Or.inl ⟨rfl, rfl⟩⟩, fun k hk => by simp [ownC, Value.ownBlock] at hk⟩, fun d hd k hk => by simp [ownC, Value.ownBlock] at hk, h⟩
theorem All.ownGrow {e : TypeId} {v v' : Value} {vs vs' : List Value} {cs : List Comp} {w w1 : World} {base : Nat} (h : All (ownC e v vs :: cs) w) (hown : w1.ownsRow base e 1 v' vs'.length vs') (hg : w.grownBy w1 v.ownBlock) (hat : v'.ownBlock = v.ownBlock ∨ v'.ownBlock = some w.heap.size) : All (ownC e v' vs' :: cs) w1 := by
  have ho' := owns_zero hown
  refine h.turn ((grown_fr hg).mono (fun k hk => by simpa [ownC] using hk)) (ownC_good _ _ _) ho' (fun k hk => ?_) (fun k hk => ?_)
  · have hk' : v'.ownBlock = some k := by simpa [ownC] using hk
    rcases hat with e1 | e1
    · exact Or.inl (by simp [ownC, ← e1, hk'])
    · rw [e1] at hk'; simp at hk'; exact Or.inr (by omega)
  · have hk' : v'.ownBlock = some k := by simpa [ownC] using hk
    exact (ho'.lt k hk').2
theorem owns_at {w : World} {base : Nat} {e : TypeId} {ao : Option Addr} {n c : Nat} {us : List Value} (h : w.ownsRow base e 1 (.slice ao n c) us.length us) {k : Nat} {u : Value} (hu : us[k]? = some u) : ∃ g, ao = some ⟨g, 0, none⟩ ∧ w.cell? ⟨g, k, none⟩ = some u ∧ w.frozen? ⟨g, k, none⟩ = false := by
  have hk := (List.getElem?_eq_some_iff.1 hu).1
  rcases h.2 with ⟨e, e2⟩ | ⟨g, cap, cur, e, _, hg, hn, hm, hcs, ht⟩
  · omega
  · simp only [Value.slice.injEq] at e
    refine ⟨g, e.1, ?_, free_at hg _⟩
    rw [cell_at hg, ← Array.getElem?_toList]
    rw [← ht, List.getElem?_take, if_pos (by omega)] at hu
    exact hu
theorem owns_len {w : World} {base : Nat} {e : TypeId} {ao : Option Addr} {n c : Nat} {us : List Value} (h : w.ownsRow base e 1 (.slice ao n c) us.length us) : n = us.length ∧ us.length ≤ c := by
  rcases h.2 with ⟨e, e2⟩ | ⟨g, cap, cur, e, _, hg, hn, hm, hcs, ht⟩
  · simp only [Value.slice.injEq] at e
    exact ⟨by omega, by omega⟩
  · simp only [Value.slice.injEq] at e
    exact ⟨e.2.1, by omega⟩

end Go.Proofs.YtdhkdniddjnigaaGreatDoor

namespace Go.Proofs.YtdhkdniddjnigaaGreatDoor
set_option linter.unusedVariables false

def formN : List Int := [0, 0, 0, 0, 0, 0, 0, 0, 1, 16, 0, 0, 0, 0, 0, 0, 1, 16, 0, 0, 0, 0, 0, 0, 1, 16, 0, 64, 0, 0, 0, 0, 1, 16, 0, 0, 0, 1099511627776, 0, 0, 1, 16, 1, 16, 0, 0, 0, 0, 1, 16, 0, 0, 0, 1099511627776, 1, 8, 1, 16, 0, 0, 0, 0, 0, 0, 0, 0, 0, 0, 0, 0, 0, 0]
def wfN : List (List UInt8 × List UInt8) := [([], []), ([109, 97, 107, 101], [78]), ([100, 114, 111, 112], [78]), ([112, 117, 115, 104], [78, 84]), ([116, 114, 105, 109], [78, 75]), ([116, 97, 107, 101], [78, 84]), ([114, 101, 97, 100], [78, 75, 77]), ([99, 111, 117, 110, 116], [78]), ([108, 105, 115, 116], [])]
end Go.Proofs.YtdhkdniddjnigaaGreatDoor

namespace Go.Proofs.YtdhkdniddjnigaaGreatDoor
set_option linter.unusedVariables false

/-- A bare byte, by its number. -/
def bareN (n : Nat) : Bool := decide ((97 ≤ n ∧ n ≤ 122) ∨ (65 ≤ n ∧ n ≤ 90) ∨ (48 ≤ n ∧ n ≤ 57) ∨ n = 45 ∨ n = 95 ∨ n = 46 ∨ n = 47)
/-- A byte that may stand for itself within quotes. -/
def prnN (n : Nat) : Bool := decide (32 ≤ n ∧ n ≤ 126)
/-- What a digit counts. -/
def hexN (n : Nat) : Option Nat := if 48 ≤ n ∧ n ≤ 57 then some (n - 48) else if 97 ≤ n ∧ n ≤ 102 then some (n - 87) else none

theorem hexN_lt {n d : Nat} (h : hexN n = some d) : d < 16 := by
  unfold hexN at h
  split at h
  · simp only [Option.some.injEq] at h; omega
  · split at h
    · simp only [Option.some.injEq] at h; omega
    · simp at h

/-- A word that is written bare. -/
def isBareW (l : List UInt8) : Bool := decide (l ≠ [] ∧ ∀ b ∈ l, bareN b.toNat = true)

inductive St where
  | ahead
  | bare (w : List UInt8)
  | closed
  | quote (o : Nat) (w : List UInt8)
  | esc (o : Nat) (w : List UInt8) (e : Nat)
  | high (o : Nat) (w : List UInt8) (e : Nat)
  | low (o : Nat) (w : List UInt8) (e d : Nat)

abbrev Ws := List (List UInt8)

inductive Out where
  | go (s : St) (ws : Ws)
  | bad (k : Nat)

/-- One byte of a line. -/
def stepW (s : St) (ws : Ws) (k : Nat) (b : UInt8) : Out :=
  match s with
  | .ahead => if b.toNat = 32 then .go .ahead ws else if b.toNat = 34 then .go (.quote k []) ws else if bareN b.toNat = true then .go (.bare [b]) ws else .bad k
  | .bare w => if bareN b.toNat = true then .go (.bare (w ++ [b])) ws else if b.toNat = 32 then .go .ahead (ws ++ [w]) else .bad k
  | .closed => if b.toNat = 32 then .go .ahead ws else .bad k
  | .quote o w => if b.toNat = 34 then (if isBareW w = true then .bad o else .go .closed (ws ++ [w])) else if b.toNat = 92 then .go (.esc o w k) ws else if prnN b.toNat = true then .go (.quote o (w ++ [b])) ws else .bad k
  | .esc o w e => if b.toNat = 120 then .go (.high o w e) ws else if b.toNat = 34 ∨ b.toNat = 92 then .go (.quote o (w ++ [b])) ws else .bad k
  | .high o w e => match hexN b.toNat with
    | none => .bad k
    | some d => .go (.low o w e d) ws
  | .low o w e h => match hexN b.toNat with
    | none => .bad k
    | some d => if prnN (16 * h + d) = true then .bad e else .go (.quote o (w ++ [UInt8.ofNat (16 * h + d)])) ws

inductive Ans where
  | ok (ws : Ws)
  | byte (k : Nat)
  | stop (n : Nat)
  | long

/-- A line's end. -/
def finW (s : St) (ws : Ws) (n : Nat) : Ans :=
  match s with
  | .ahead => .ok ws
  | .bare w => .ok (ws ++ [w])
  | .closed => .ok ws
  | _ => .stop n

def runW : St → Ws → Nat → List UInt8 → Ans
  | s, ws, k, [] => finW s ws k
  | s, ws, k, b :: t => match stepW s ws k b with
    | .go s' ws' => runW s' ws' (k + 1) t
    | .bad j => .byte j

/-- What Split answers. -/
def splitW (l : List UInt8) : Ans := if 8192 < l.length then .long else runW .ahead [] 0 l

def Ans.ws : Ans → Ws
  | .ok ws => ws
  | _ => []
def Ans.at : Ans → Nat
  | .byte k => k
  | .stop n => n
  | _ => 0
def Ans.err : Ans → Nat
  | .ok _ => 0
  | .byte _ => 161
  | .stop _ => 162
  | .long => 160

theorem runW_go {s s' : St} {ws ws' : Ws} {k : Nat} {l : List UInt8} (hk : k < l.length) (h : stepW s ws k (l.getD k 0) = .go s' ws') : runW s ws k (l.drop k) = runW s' ws' (k + 1) (l.drop (k + 1)) := by
  have e : l.drop k = l.getD k 0 :: l.drop (k + 1) := by
    rw [List.drop_eq_getElem_cons hk]
    simp [List.getD, hk]
  rw [e, runW, h]
theorem runW_bad {s : St} {ws : Ws} {k j : Nat} {l : List UInt8} (hk : k < l.length) (h : stepW s ws k (l.getD k 0) = .bad j) : runW s ws k (l.drop k) = .byte j := by
  have e : l.drop k = l.getD k 0 :: l.drop (k + 1) := by
    rw [List.drop_eq_getElem_cons hk]
    simp [List.getD, hk]
  rw [e, runW, h]
theorem runW_end {s : St} {ws : Ws} {k : Nat} {l : List UInt8} (hk : l.length ≤ k) : runW s ws k (l.drop k) = finW s ws k := by
  rw [List.drop_eq_nil_of_le hk, runW]

/-- The words are fewer than the bytes, and so are their letters. -/
def St.held : St → Nat
  | .ahead => 0
  | .bare w => w.length + 1
  | .closed => 0
  | .quote _ w => w.length + 1
  | .esc _ w _ => w.length + 1
  | .high _ w _ => w.length + 1
  | .low _ w _ _ => w.length + 1
def wsz (ws : Ws) : Nat := ws.length + (ws.map List.length).sum
theorem wsz_snoc (ws : Ws) (w : List UInt8) : wsz (ws ++ [w]) = wsz ws + w.length + 1 := by simp [wsz]; omega
theorem stepW_held {s s' : St} {ws ws' : Ws} {k : Nat} {b : UInt8} (h : stepW s ws k b = .go s' ws') : s'.held + wsz ws' ≤ s.held + wsz ws + 2 := by
  cases s <;> simp only [stepW] at h <;> (repeat' split at h) <;> simp only [Out.go.injEq, reduceCtorEq] at h <;> obtain ⟨rfl, rfl⟩ := h <;> simp only [St.held, wsz_snoc, List.length_append, List.length_cons, List.length_nil] <;> omega

end Go.Proofs.YtdhkdniddjnigaaGreatDoor

namespace Go.Proofs.YtdhkdniddjnigaaGreatDoor
open Go.RowKit
set_option linter.unusedVariables false

theorem Tryz.info5 : (Tryz.prog.info? 5).map (fun i => (i.zero, i.size, i.bytes)) = some (some (.int .u8 0), 1, 1) := by kernel_rfl

/-- Bytes as cells. -/
def cellsB (l : List UInt8) : List Value := l.map fun b => Value.int .u8 (b.toNat : Int)

theorem cellsB_length (l : List UInt8) : (cellsB l).length = l.length := by simp [cellsB]
theorem cellsB_append (a b : List UInt8) : cellsB (a ++ b) = cellsB a ++ cellsB b := by simp [cellsB]
theorem cellsB_one (l : List UInt8) : ∀ u ∈ cellsB l, u.oneCell' = true := by
  intro u hu
  obtain ⟨_, _, rfl⟩ := List.mem_map.1 hu
  rfl

/-- A slice of bytes, read in a world; of an empty one's address nothing is known. -/
def Reads (w : World) (s : Value) (l : List UInt8) : Prop :=
  ∃ ao c, s = .slice ao l.length c ∧ l.length ≤ c ∧ ((l = [] ∧ (ao = none → c = 0)) ∨ ∃ g o, ao = some ⟨g, o, none⟩ ∧ g < w.heap.size ∧ ∀ j u, (cellsB l)[j]? = some u → w.cell? ⟨g, o + j, none⟩ = some u)

theorem Reads.form {w : World} {s : Value} {l : List UInt8} (h : Reads w s l) : ∃ ao c, s = .slice ao l.length c := by
  obtain ⟨ao, c, rfl, _⟩ := h
  exact ⟨ao, c, rfl⟩

theorem Reads.nil (w : World) : Reads w (.slice none 0 0) [] := ⟨none, 0, rfl, by simp, Or.inl ⟨rfl, fun _ => rfl⟩⟩

theorem Reads.at_u8 {w : World} {ao : Option Addr} {n c : Nat} {l : List UInt8} (h : Reads w (.slice ao n c) l) (k : Nat) (hk : k < l.length) : ∃ g o, ao = some ⟨g, o, none⟩ ∧ w.cell? ⟨g, o + k, none⟩ = some (.int .u8 ((l.getD k 0).toNat : Int)) := by
  obtain ⟨ao', c', e, hc, hcase⟩ := h
  simp only [Value.slice.injEq] at e
  obtain ⟨rfl, rfl, rfl⟩ := e
  rcases hcase with ⟨rfl, _⟩ | ⟨g, o, rfl, hg, hcell⟩
  · simp at hk
  · exact ⟨g, o, rfl, hcell k _ (by simp [cellsB, hk, List.getD])⟩

/-- Bytes that are read stay, where their block stays. -/
theorem Reads.kept {w w' : World} {s : Value} {l : List UInt8} (h : Reads w s l) (hsz : w.heap.size ≤ w'.heap.size) (hb : ∀ k, k < w.heap.size → s.ownBlock = some k → w'.heap[k]? = w.heap[k]?) : Reads w' s l := by
  obtain ⟨ao, c, rfl, hc, hcase⟩ := h
  refine ⟨ao, c, rfl, hc, ?_⟩
  rcases hcase with hn | ⟨g, o, rfl, hg, hcell⟩
  · exact Or.inl hn
  · refine Or.inr ⟨g, o, rfl, Nat.lt_of_lt_of_le hg hsz, fun j u hu => ?_⟩
    rw [World.cell?_of_block (w := w) (hb g hg rfl)]
    exact hcell j u hu

theorem Reads.below {w w' : World} {s : Value} {l : List UInt8} (h : Reads w s l) (hw : Below w.heap.size w w') : Reads w' s l :=
  h.kept hw.size fun k hk _ => hw.block k hk

theorem Reads.drewN {w : World} {s : Value} {l : List UInt8} (h : Reads w s l) (q : Nat) : Reads (w.drewN q) s l := h.kept (Nat.le_refl _) (fun _ _ _ => rfl)
theorem Reads.drew {w : World} {s : Value} {l : List UInt8} (h : Reads w s l) : Reads w.drew s l := h.kept (Nat.le_refl _) (fun _ _ _ => rfl)

theorem Reads.of_owns {w : World} {base : Nat} {s : Value} {l : List UInt8} (h : w.ownsRow base 5 1 s l.length (cellsB l)) : Reads w s l := by
  have hc := fun g => h.cells (g := g)
  rcases h.2 with ⟨rfl, e⟩ | ⟨g, cap, cur, rfl, hg, hgg, hn, _⟩
  · exact ⟨none, 0, by rw [e], by omega, Or.inl ⟨List.eq_nil_of_length_eq_zero e, fun _ => rfl⟩⟩
  · refine ⟨_, cap, rfl, hn, Or.inr ⟨g, 0, rfl, (Array.getElem?_eq_some_iff.1 hgg).1, fun j u hu => ?_⟩⟩
    have := hc g rfl j u hu
    simpa [Addr.add_lit] using this

theorem u8_eq {a b : UInt8} (h : a.toNat = b.toNat) : a = b := UInt8.toNat_inj.1 h
theorem differ_at {l t : List UInt8} (hl : l.length = t.length) (h : l ≠ t) : ∃ k, k < l.length ∧ l.getD k 0 ≠ t.getD k 0 := by
  apply Classical.byContradiction
  intro hn
  apply h
  apply List.ext_getElem hl
  intro i h1 h2
  apply Classical.byContradiction
  intro hne
  exact hn ⟨i, h1, by simpa [List.getD, List.getElem?_eq_getElem h1, List.getElem?_eq_getElem h2] using hne⟩


theorem Tryz.info9 : (Tryz.prog.info? 9).map (fun i => (i.zero, i.size, i.bytes)) = some (some (.string ⟨#[]⟩), 1, 16) := by kernel_rfl
abbrev txtV (l : List ByteArray) : List Value := l.map Value.string
/-- A list of texts that is read. -/
def Txts (w : World) (s : Value) (l : List ByteArray) : Prop :=
  ∃ ao c, s = .slice ao l.length c ∧ l.length ≤ c ∧ (l = [] ∨ ∃ g o, ao = some ⟨g, o, none⟩ ∧ g < w.heap.size ∧ ∀ j (h : j < l.length), w.cell? ⟨g, o + j, none⟩ = some (.string l[j]))

theorem Txts.later {w w' : World} {s : Value} {l : List ByteArray} (h : Txts w s l) (hb : Below w.heap.size w w') : Txts w' s l := by
  obtain ⟨ao, c, e, hc, hx⟩ := h
  refine ⟨ao, c, e, hc, hx.imp id ?_⟩
  rintro ⟨g, o, ea, hg, hcell⟩
  exact ⟨g, o, ea, Nat.lt_of_lt_of_le hg hb.size, fun j hj => cell_under hb hg (hcell j hj)⟩
theorem Txts.alloc {w : World} {s : Value} {l : List ByteArray} (h : Txts w s l) (o : Obj) : Txts (w.alloc o) s l := h.later (ba w o)

theorem Txts.form {w : World} {s : Value} {l : List ByteArray} (h : Txts w s l) : ∃ ao c, s = .slice ao l.length c := by obtain ⟨ao, c, e, _⟩ := h; exact ⟨ao, c, e⟩
theorem Txts.at {w : World} {ao : Option Addr} {n c : Nat} {l : List ByteArray} (h : Txts w (.slice ao n c) l) {j : Nat} (hj : j < l.length) : ∃ g o, ao = some ⟨g, o, none⟩ ∧ g < w.heap.size ∧ w.cell? ⟨g, o + j, none⟩ = some (.string l[j]) := by
  obtain ⟨ao', c', e, hc, hx⟩ := h
  simp only [Value.slice.injEq] at e
  obtain ⟨rfl, _, _⟩ := e
  rcases hx with rfl | ⟨g, o, ea, hg, hcell⟩
  · simp at hj
  · exact ⟨g, o, ea, hg, hcell j hj⟩

theorem srcNil {w : World} {size : Nat} {tx e' : TypeId} (hk : Tryz.prog.underlying tx = some (.slice e')) (ao : Option Addr) (c : Nat) : Src Tryz.prog size tx (.slice ao 0 c) 0 [] w := by
  cases ao with
  | none => exact Src.ofNil w hk c
  | some a => exact Src.ofSlice w hk a 0 c [] (by simp) (fun j u h => by simp at h) (fun u h => by simp at h)
theorem wpList_append_run {P : Program} {w : World} {ops : Array Oper} {rest : List Oper} {o : Oper} {a : Act} {Q : Exit → Act → World → Prop} (hgd : o.guard = none) (s x : Operand) (t : TypeId)
    (ho : o.op = .call { callee := .builtin .append, args := #[s, x], argTypes := #[t, t] }) (v1 v2 v' : Value) (w' : World) (hs : a.eval s = v1) (hx : a.eval x = v2)
    (hr : (Builtin.append_ #[t, t] o.type #[v1, v2]).run P w = .ok v' w') (h : wpList P ops Q rest (a.put o.dst v') w') : wpList P ops Q (o :: rest) a w := by
  refine wpList_plain hgd fun K hK => ?_
  unfold Oper.wp execOp
  simp only [ho, resolve, invoke, builtin, Sem.run_bind, Sem.run_pure, Result.andThen_ok, List.map_toArray, List.map_cons, List.map_nil, hs, hx, hr]
  exact hK _ _ h
theorem All.addMade {cs : List Comp} {w : World} (h : All cs w) : All (ownC 9 (.slice (some ⟨w.heap.size, 0, none⟩) 0 0) (txtV []) :: cs) (w.alloc (.cells #[] 9)) := by
  refine h.addOwn (ba w _) ?_
  have := World.ownsRow_made (base := w.heap.size) (e := 9) (size := 1) w #[] 0 (Nat.le_refl _) (by unfold maxLen; omega) rfl
  exact this
/-- Texts are laid behind one's own. -/
theorem appX {W : World} {v v2 : Value} {l l2 : List ByteArray} {cs : List Comp} (A : All (ownC 9 v (txtV l) :: cs) W) (h2 : Txts W v2 l2) (hl : l.length + l2.length ≤ 1000000) :
    ∃ ao c w', (Builtin.append_ #[43, 43] 43 #[v, v2]).run Tryz.prog W = .ok (.slice ao (l.length + l2.length) c) w' ∧ All (ownC 9 (.slice ao (l.length + l2.length) c) (txtV (l ++ l2)) :: cs) w' := by
  obtain ⟨i1, hi1, hz0, hz1, hz2⟩ := info_parts Tryz.info9
  obtain ⟨ao2, c2, rfl, hc2, hx⟩ := h2
  have hown : W.ownsRow 0 9 1 v (txtV l).length (txtV l) := A.1.2.1
  obtain ⟨ao, c, rfl⟩ := owns_form hown
  rcases hx with rfl | ⟨g, o, rfl, hg, hcell⟩
  · refine ⟨ao, c, W, ?_, ?_⟩
    · have := run_append_nothing W 43 43 43 9 i1 Tryz.underlying43 hi1 ao (txtV l).length c (owns_len hown).2 (.slice ao2 0 c2) (srcNil Tryz.underlying43 ao2 c2)
      simpa using this
    · simpa using A
  · obtain ⟨v', w', hr, h2, h3, h4, h5⟩ := run_append_own_at (P := Tryz.prog) W 0 43 43 9 i1 (.string ⟨#[]⟩) 1 16 Tryz.underlying43 hi1 hz0 hz1 hz2 rfl (by decide) (.slice ao (txtV l).length c) (txtV l).length (txtV l) hown ⟨g, o, none⟩ l2.length c2 (txtV l2) (by simp)
      (fun j u hu => by
        rw [List.getElem?_map] at hu
        obtain ⟨y, hy, rfl⟩ := Option.map_eq_some_iff.1 hu
        obtain ⟨hj, rfl⟩ := List.getElem?_eq_some_iff.1 hy
        rw [Addr.add_lit]
        exact hcell j hj) (fun u hu => by
        obtain ⟨y, _, rfl⟩ := List.mem_map.1 hu
        rfl) (by simp only [List.length_map]; unfold maxLen; omega) (by simp only [List.length_map]; omega) (by omega)
    obtain ⟨ao', c', rfl⟩ := owns_form h2
    have el : (txtV l).length + l2.length = l.length + l2.length := by simp
    rw [el] at hr h2 h5
    refine ⟨ao', c', w', hr, A.ownGrow (vs' := txtV (l ++ l2)) (base := 0) ?_ h3 h5⟩
    have e1 : txtV (l ++ l2) = txtV l ++ txtV l2 := by simp [txtV]
    rw [e1, List.length_append, List.length_map, List.length_map]
    exact h2

theorem one_new {x : Value} {H : Nat} {W : World} (hc : W.cell? ⟨H, 0, none⟩ = some x) : ∀ j u, [x][j]? = some u → W.cell? ((⟨H, 0, none⟩ : Addr).add j) = some u := by
  intro j u hu
  rw [Addr.add_lit]
  match j with
  | 0 => simp only [List.getElem?_cons_zero, Option.some.injEq] at hu; subst hu; simpa using hc
  | j + 1 => simp at hu
theorem one_cell {x : Value} (h : x.oneCell' = true) : ∀ u ∈ [x], u.oneCell' = true := by
  intro u hu
  simp only [List.mem_cons, List.not_mem_nil, or_false] at hu
  subst hu
  exact h

/-- One more is laid behind one's own. -/
theorem app1 {W : World} {e t : TypeId} {i : TypeInfo} {z v x : Value} {bytes H : Nat} {us : List Value} {cs : List Comp} (hu : Tryz.prog.underlying t = some (.slice e)) (hi : Tryz.prog.info? e = some i) (hz : i.zero = some z) (hsize : i.size = 1) (hby : i.bytes = bytes) (hzs : z.cells.size = 1)
    (A : All (ownC e v us :: cs) W) (hc : W.cell? ⟨H, 0, none⟩ = some x) (h1 : x.oneCell' = true) (hl : us.length + 1 ≤ maxLen) (hl2 : (us.length + 1) * bytes ≤ 140737488355328) :
    ∃ ao c w', (Builtin.append_ #[t, t] t #[v, .slice (some ⟨H, 0, none⟩) 1 1]).run Tryz.prog W = .ok (.slice ao (us.length + 1) c) w' ∧ All (ownC e (.slice ao (us.length + 1) c) (us ++ [x]) :: cs) w' := by
  have hown : W.ownsRow 0 e 1 v us.length us := A.1.2.1
  obtain ⟨v', w', hr, h2, h3, h4, h5⟩ := run_append_own_at (P := Tryz.prog) W 0 t t e i z 1 bytes hu hi hz hsize hby hzs (by decide) v us.length us hown ⟨H, 0, none⟩ 1 1 [x] (by simp) (one_new hc) (one_cell h1) hl hl2 (by omega)
  obtain ⟨ao', c', rfl⟩ := owns_form h2
  refine ⟨ao', c', w', hr, A.ownGrow (vs' := us ++ [x]) (base := 0) ?_ h3 h5⟩
  rw [List.length_append]
  exact h2


end Go.Proofs.YtdhkdniddjnigaaGreatDoor

namespace Go.Proofs.YtdhkdniddjnigaaGreatDoor
open Go.RowKit
set_option linter.unusedVariables false

abbrev ptr (B : Nat) : Value := .pointer (some ⟨B, 0, none⟩)
def txW (ws : Ws) : List Value := ws.map fun w => Value.string ⟨w.toArray⟩
theorem txW_length (ws : Ws) : (txW ws).length = ws.length := by simp [txW]
theorem txW_snoc (ws : Ws) (w : List UInt8) : txW (ws ++ [w]) = txW ws ++ [.string ⟨w.toArray⟩] := by simp [txW]
/-- One byte laid behind one's own. -/
theorem app_byte {W : World} {v : Value} {l : List UInt8} {cs : List Comp} (A : All (ownC 5 v (cellsB l) :: cs) W) (b : UInt8) (hl : l.length + 1 ≤ 140737488355328) :
    ∃ ao c w', (Builtin.append_ #[40, 40] 40 #[v, .slice (some ⟨W.heap.size, 0, none⟩) 1 1]).run Tryz.prog (W.alloc (.cells #[.int .u8 (b.toNat : Int)] 5)) = .ok (.slice ao (l.length + 1) c) w' ∧ All (ownC 5 (.slice ao (l.length + 1) c) (cellsB (l ++ [b])) :: cs) w' := by
  obtain ⟨i1, hi1, hz0, hz1, hz2⟩ := info_parts Tryz.info5
  obtain ⟨ao, c, w', hr, A2⟩ := app1 (H := W.heap.size) (x := .int .u8 (b.toNat : Int)) Tryz.underlying40 hi1 hz0 hz1 hz2 rfl (A.alloc (.cells #[.int .u8 (b.toNat : Int)] 5)) (by rw [cell_at (heap_alloc_new W _)]; rfl) rfl (by rw [cellsB_length]; unfold maxLen; omega) (by rw [cellsB_length]; omega)
  rw [cellsB_length] at hr A2
  refine ⟨ao, c, w', hr, ?_⟩
  rw [cellsB_append]
  exact A2
/-- One text laid behind one's own. -/
theorem app_txt {W : World} {v : Value} {l : Ws} {cs : List Comp} (A : All (ownC 9 v (txW l) :: cs) W) (x : List UInt8) (hl : l.length + 1 ≤ 1000000000000) :
    ∃ ao c w', (Builtin.append_ #[43, 43] 43 #[v, .slice (some ⟨W.heap.size, 0, none⟩) 1 1]).run Tryz.prog (W.alloc (.cells #[.string ⟨x.toArray⟩] 9)) = .ok (.slice ao (l.length + 1) c) w' ∧ All (ownC 9 (.slice ao (l.length + 1) c) (txW (l ++ [x])) :: cs) w' := by
  obtain ⟨i1, hi1, hz0, hz1, hz2⟩ := info_parts Tryz.info9
  obtain ⟨ao, c, w', hr, A2⟩ := app1 (H := W.heap.size) (x := .string ⟨x.toArray⟩) Tryz.underlying43 hi1 hz0 hz1 hz2 rfl (A.alloc (.cells #[.string ⟨x.toArray⟩] 9)) (by rw [cell_at (heap_alloc_new W _)]; rfl) rfl (by rw [txW_length]; unfold maxLen; omega) (by rw [txW_length]; omega)
  rw [txW_length] at hr A2
  refine ⟨ao, c, w', hr, ?_⟩
  rw [txW_snoc]
  exact A2

theorem foldl_push (l : List UInt8) : ∀ s : ByteArray, (l.map fun b => (b.toNat : Int)).foldl (fun r n => r.push (UInt8.ofNat n.toNat)) s = ⟨s.data ++ l.toArray⟩ := by
  induction l with
  | nil => intro s; simp
  | cons c r ih =>
    intro s
    simp only [List.map_cons, List.foldl_cons]
    rw [ih]
    simp [ByteArray.push]
theorem conv_string {w : World} {ao : Option Addr} {n c : Nat} {l : List UInt8} (h : Reads w (.slice ao n c) l) : (convert 40 9 (.slice ao n c)).run Tryz.prog w = .ok (.string ⟨l.toArray⟩) w := by
  obtain ⟨ao, c, e, hc, hcase⟩ := h
  simp only [Value.slice.injEq] at e
  obtain ⟨rfl, rfl, rfl⟩ := e
  rw [run_convert_bytes_string w 40 9 5 _ l.length _ Tryz.underlying40 Tryz.underlying5 Tryz.underlying9]
  rcases hcase with ⟨rfl, h0⟩ | ⟨g, o, rfl, hg, hcell⟩
  · rcases ao with _ | a
    · obtain rfl := h0 rfl; rfl
    ·
      have hl : (loadCells a 0).run Tryz.prog w = .ok #[] w := by
        have := run_loadCells_list (P := Tryz.prog) w a [] (by simp)
        simpa using this
      rw [List.length_nil, run_bytesToString w a 0 c [] (by simpa using hl)]
      rfl
  · have hl : (loadCells ⟨g, o, none⟩ l.length).run Tryz.prog w = .ok (((l.map fun b => (b.toNat : Int)).map (Value.int .u8)).toArray) w := by
      have := run_loadCells_list (P := Tryz.prog) w ⟨g, o, none⟩ (cellsB l) (by simpa [Addr.add_lit] using hcell)
      rw [cellsB_length] at this
      simpa [cellsB, Function.comp_def] using this
    rw [run_bytesToString w ⟨g, o, none⟩ l.length _ _ hl, foldl_push]
    simp

theorem step_append_run {P : Program} {w : World} {ops : Array Oper} {o : Oper} {a : Act} {K : Act → World → Prop} {Q : Exit → Act → World → Prop} {E : Prop} (hgd : o.guard = none) (s x : Operand) (t : TypeId)
    (ho : o.op = .call { callee := .builtin .append, args := #[s, x], argTypes := #[t, t] }) (v1 v2 v' : Value) (w' : World) (hs : a.eval s = v1) (hx : a.eval x = v2)
    (hr : (Builtin.append_ #[t, t] o.type #[v1, v2]).run P w = .ok v' w') (h : K (a.put o.dst v') w') :
    if Region.wanted o (yielded ops a.tmps) = true then Oper.wp P o a w K Q else E := by
  have hw : Region.wanted o (yielded ops a.tmps) = true := by simp [Region.wanted, hgd]
  rw [if_pos hw]
  unfold Oper.wp execOp
  simp only [ho, resolve, invoke, builtin, Sem.run_bind, Sem.run_pure, Result.andThen_ok, List.map_toArray, List.map_cons, List.map_nil, hs, hx, hr]
  exact h

theorem reads_own {e : Value} {l : List UInt8} {cs : List Comp} {w : World} (h : All (ownC 5 e (cellsB l) :: cs) w) : Reads w e l := by
  have := h.1.2.1
  exact Reads.of_owns (base := 0) (by rw [← cellsB_length l]; exact this)

theorem idx_at {l : List UInt8} {k : Nat} (hk : k < l.length) (W : World) : (Instr.index 9 (.string ⟨l.toArray⟩) (.int .i64 (k : Int))).run Tryz.prog W = .ok (.int .u8 ((l.getD k 0).toNat : Int)) W := by
  have hs : (⟨l.toArray⟩ : ByteArray).size = l.length := by simp [ByteArray.size]
  rw [run_index_string W 9 _ _ _ Tryz.underlying9, dif_pos ⟨by omega, by rw [hs]; omega⟩]
  congr 3
  have h1 : ((k : Int).toNat) = k := by simp
  simp only [h1]
  have : (⟨l.toArray⟩ : ByteArray)[k]'(by rw [hs]; omega) = l[k] := by
    show (ByteArray.get _ _ _) = _
    simp [ByteArray.get]
  rw [this]
  simp [List.getD, hk]

theorem take_snocB {x : List UInt8} {k : Nat} (hk : k < x.length) : x.take (k + 1) = x.take k ++ [x.getD k 0] := by
  rw [List.take_add_one, List.getElem?_eq_getElem hk]
  simp [List.getD, hk]


theorem All.setOwn {t : TypeId} {g n cap k : Nat} {us : List Value} {u : Value} {cs : List Comp} {w : World} (h : All (ownC t (.slice (some ⟨g, 0, none⟩) n cap) us :: cs) w) : All (ownC t (.slice (some ⟨g, 0, none⟩) n cap) (us.set k u) :: cs) (w.setCell ⟨g, k, none⟩ u) := by
  have ho : w.ownsRow 0 t 1 (.slice (some ⟨g, 0, none⟩) n cap) us.length us := h.1.2.1
  obtain ⟨hn, _⟩ := owns_len ho
  subst hn
  have hs := (World.ownsRow.stored ho k u).1
  refine h.turn (Fr.setCell w g k _) (ownC_good _ _ _) ?_ (Gr.refl _ _) (fun k' hk' => ?_)
  · show World.ownsRow _ 0 t 1 _ (us.set k u).length _
    rw [List.length_set]; exact hs
  · have := h.1.2.2 k' hk'
    simpa [World.setCell] using this

/-- A list of texts that is read. -/
def Rt (w : World) (s : Value) (l : Ws) : Prop :=
  ∃ ao c, s = .slice ao l.length c ∧ l.length ≤ c ∧ (l = [] ∨ ∃ g o, ao = some ⟨g, o, none⟩ ∧ g < w.heap.size ∧ ∀ j (h : j < l.length), w.cell? ⟨g, o + j, none⟩ = some (.string ⟨l[j].toArray⟩))
theorem Rt.later {w w' : World} {s : Value} {l : Ws} (h : Rt w s l) (hb : Below w.heap.size w w') : Rt w' s l := by
  obtain ⟨ao, c, e, hc, hx⟩ := h
  refine ⟨ao, c, e, hc, hx.imp id ?_⟩
  rintro ⟨g, o, ea, hg, hcell⟩
  exact ⟨g, o, ea, Nat.lt_of_lt_of_le hg hb.size, fun j hj => cell_under hb hg (hcell j hj)⟩
theorem Rt.form {w : World} {s : Value} {l : Ws} (h : Rt w s l) : ∃ ao c, s = .slice ao l.length c := by obtain ⟨ao, c, e, _⟩ := h; exact ⟨ao, c, e⟩
theorem Rt.at {w : World} {ao : Option Addr} {n c : Nat} {l : Ws} (h : Rt w (.slice ao n c) l) {j : Nat} (hj : j < l.length) : ∃ g o, ao = some ⟨g, o, none⟩ ∧ g < w.heap.size ∧ w.cell? ⟨g, o + j, none⟩ = some (.string ⟨(l.getD j []).toArray⟩) := by
  obtain ⟨ao', c', e, hc, hx⟩ := h
  simp only [Value.slice.injEq] at e
  obtain ⟨rfl, _, _⟩ := e
  rcases hx with rfl | ⟨g, o, ea, hg, hcell⟩
  · simp at hj
  · refine ⟨g, o, ea, hg, ?_⟩
    rw [hcell j hj]
    simp [List.getD, hj]
theorem Rt.of_owns {w : World} {base : Nat} {s : Value} {l : Ws} (h : w.ownsRow base 9 1 s (txW l).length (txW l)) : Rt w s l := by
  obtain ⟨ao, c, rfl⟩ := owns_form h
  have hl := owns_len h
  rw [txW_length] at hl ⊢
  refine ⟨ao, c, rfl, hl.2, ?_⟩
  by_cases h0 : l = []
  · exact Or.inl h0
  · have h1 : 0 < l.length := List.length_pos_iff.2 h0
    obtain ⟨g, rfl, hc, _⟩ := owns_at h (k := 0) (u := .string ⟨l[0].toArray⟩) (by simp [txW, h1])
    refine Or.inr ⟨g, 0, rfl, World.block_lt_of_cell? w _ hc, fun j hj => ?_⟩
    obtain ⟨g', e, hc', _⟩ := owns_at h (k := j) (u := .string ⟨l[j].toArray⟩) (by simp [txW, hj])
    simp only [Option.some.injEq, Addr.mk.injEq, and_true] at e
    subst e
    simpa using hc'
theorem rt_own {v : Value} {l : Ws} {cs : List Comp} {w : World} (h : All (ownC 9 v (txW l) :: cs) w) : Rt w v l := Rt.of_owns (base := 0) h.1.2.1
theorem rt_mem {v : Value} {l : Ws} {cs : List Comp} {w : World} (h : All cs w) (hm : ownC 9 v (txW l) ∈ cs) : Rt w v l := Rt.of_owns (base := 0) (h.mem hm).2.1

theorem ba_ne {x y : List UInt8} : ((⟨x.toArray⟩ : ByteArray).toList == (⟨y.toArray⟩ : ByteArray).toList) = decide (x = y) := by
  rw [Lib.toList_data, Lib.toList_data, Bool.eq_iff_iff]
  simp
theorem differ_ws {l t : Ws} (hl : l.length = t.length) (h : l ≠ t) : ∃ k, k < l.length ∧ l.getD k [] ≠ t.getD k [] := by
  apply Classical.byContradiction
  intro hn
  apply h
  apply List.ext_getElem hl
  intro i h1 h2
  apply Classical.byContradiction
  intro hne
  exact hn ⟨i, h1, by simpa [List.getD, List.getElem?_eq_getElem h1, List.getElem?_eq_getElem h2] using hne⟩

theorem set_next {n k : Nat} {x : List UInt8} {l : Ws} (hk : k < l.length) : (txW (List.replicate k x ++ l.drop k)).set k (.string ⟨x.toArray⟩) = txW (List.replicate (k + 1) x ++ l.drop (k + 1)) := by
  rw [show (Value.string ⟨x.toArray⟩) = (fun y : List UInt8 => Value.string ⟨y.toArray⟩) x from rfl, txW, ← List.map_set]
  unfold txW
  congr 1
  rw [List.set_append_right _ _ (by simp), List.length_replicate, Nat.sub_self, List.drop_eq_getElem_cons hk, List.set_cons_zero, List.replicate_succ']
  simp

theorem rt_two (w : World) (x y : List UInt8) : Rt (w.alloc (.cells #[.string ⟨x.toArray⟩, .string ⟨y.toArray⟩] 9)) (.slice (some ⟨w.heap.size, 0, none⟩) 2 2) [x, y] := by
  refine ⟨some ⟨w.heap.size, 0, none⟩, 2, rfl, by simp, Or.inr ⟨w.heap.size, 0, rfl, by simp, fun j hj => ?_⟩⟩
  rw [cell_at (heap_alloc_new w _)]
  match j with
  | 0 => rfl
  | 1 => rfl
  | j + 2 => simp at hj; omega

theorem own9 {v : Value} {l : Ws} {cs : List Comp} {w : World} (h : All (ownC 9 v (txW l) :: cs) w) : ∃ ao c, v = .slice ao l.length c := by
  have := owns_form (h.1.2.1 : w.ownsRow 0 9 1 v _ _)
  rw [txW_length] at this
  exact this


end Go.Proofs.YtdhkdniddjnigaaGreatDoor

namespace Go.Proofs.YtdhkdniddjnigaaGreatDoor
open Go.RowKit
set_option linter.unusedVariables false

/-- The table of forms, as the program's text lays it. -/
structure Tab (w : World) : Prop where
  lt : 3 < w.heap.size
  cell : ∀ i, i < 72 → w.cell? ⟨3, i, none⟩ = some (.int .i64 (formN.getD i 0))

theorem Tab.below {w w' : World} (h : Tab w) (hb : Below w.heap.size w w') : Tab w' :=
  ⟨Nat.lt_of_lt_of_le h.lt hb.size, fun i hi => cell_under hb h.lt (h.cell i hi)⟩
theorem Tab.fr {F : List Nat} {w w' : World} (h : Tab w) (hb : Fr F w w') (hF : 3 ∉ F) : Tab w' :=
  ⟨Nat.lt_of_lt_of_le h.lt hb.size, fun i hi => by have := h.cell i hi; simp only [World.cell?, hb.block 3 h.lt hF] at this ⊢; exact this⟩

abbrev spanV (a b : Int) : Value := .agg #[.int .i64 a, .int .i64 b]
def hs (b : Int) : Bool := decide (0 < b)
def hl (a b n : Int) : Bool := decide (a ≤ n) && decide (n ≤ b)
def wr (a b n : Int) : Bool := hs b && !hl a b n
def ex (b n : Int) : Bool := !hs b && decide (n ≠ 0)

theorem has_any {w : World} (a b : Int) : Calls Tryz.prog 218 #[spanV a b] w fun e w' => e = .returned (.bool (hs b)) ∧ Below w.heap.size w w' := by
  go_enter Tryz.func218, Tryz.ntmps218
  go_wp2
  go_ret
  exact ⟨rfl, ba _ _⟩

theorem holds_any {w : World} (a b n : Int) : Calls Tryz.prog 219 #[spanV a b, .int .i64 n] w fun e w' => e = .returned (.bool (hl a b n)) ∧ Below w.heap.size w w' := by
  by_cases h : a ≤ n
  · have e1 : decide (a ≤ n) = true := by simpa using h
    go_enter Tryz.func219, Tryz.ntmps219
    go_wp2
    go_ret
    exact ⟨by simp [hl, h], ba _ _⟩
  · have e1 : decide (a ≤ n) = false := by simpa using h
    go_enter Tryz.func219, Tryz.ntmps219
    go_wp2
    go_ret
    exact ⟨by simp [hl, e1], ba _ _⟩

theorem has_b {w : World} (a b : Int) : Calls Tryz.prog 218 #[spanV a b] w fun e w' => ∃ x, Hid (hs b = x) ∧ e = .returned (.bool x) ∧ Hid (Below w.heap.size w w') :=
  (has_any a b).mono fun e w' ⟨h, h'⟩ => ⟨_, hid rfl, h, h'⟩
theorem holds_b {w : World} (a b n : Int) : Calls Tryz.prog 219 #[spanV a b, .int .i64 n] w fun e w' => ∃ x, Hid (hl a b n = x) ∧ e = .returned (.bool x) ∧ Hid (Below w.heap.size w w') :=
  (holds_any a b n).mono fun e w' ⟨h, h'⟩ => ⟨_, hid rfl, h, h'⟩

theorem b2 {w w1 w2 : World} (h : Below w.heap.size w w1) (k : Below w1.heap.size w1 w2) : Below w.heap.size w w2 := h.trans (k.mono h.size)
end Go.Proofs.YtdhkdniddjnigaaGreatDoor

namespace Go.Proofs.YtdhkdniddjnigaaGreatDoor
open Go.RowKit
set_option linter.unusedVariables false

set_option maxRecDepth 1000000 in
theorem wrong_any {w : World} (a b n : Int) : Calls Tryz.prog 195 #[spanV a b, .int .i64 n] w fun e w' => e = .returned (.bool (wr a b n)) ∧ Below w.heap.size w w' := by
  go_enter Tryz.func195, Tryz.ntmps195
  go_wp2_with fail
  refine (has_b a b).mono ?_
  rintro e w1 ⟨x, H0, rfl, B1⟩
  have hh := heap_alloc_new w (.cells #[.int .i64 a, .int .i64 b] 241)
  have hh1 : w1.heap[w.heap.size]? = some (.cells #[.int .i64 a, .int .i64 b] 241) := by rw [B1.out.block _ (by simp)]; exact hh
  have c0 : w1.cell? ⟨w.heap.size, 0, none⟩ = some (.int .i64 a) := by rw [cell_at hh1]; rfl
  have c1 : w1.cell? ⟨w.heap.size, 1, none⟩ = some (.int .i64 b) := by rw [cell_at hh1]; rfl
  clear hh hh1
  have B2 := hid (b2 (ba w _) B1.out)
  clear B1
  cases x with
  | false =>
    go_wp2
    go_ret
    exact ⟨by simp [wr, H0.out], B2.out⟩
  | true =>
    go_wp2_with fail
    refine (holds_b a b n).mono ?_
    rintro e w2 ⟨x, H1, rfl, B3⟩
    have B4 := hid (b2 B2.out B3.out)
    clear B2 B3
    go_wp2
    go_ret
    exact ⟨by simp [wr, H0.out, H1.out], B4.out⟩

set_option maxRecDepth 1000000 in
theorem extra_any {w : World} (a b n : Int) : Calls Tryz.prog 196 #[spanV a b, .int .i64 n] w fun e w' => e = .returned (.bool (ex b n)) ∧ Below w.heap.size w w' := by
  go_enter Tryz.func196, Tryz.ntmps196
  go_wp2_with fail
  refine (has_b a b).mono ?_
  rintro e w1 ⟨x, H0, rfl, B1⟩
  have B2 := hid (b2 (ba w _) B1.out)
  clear B1
  cases x with
  | true =>
    go_wp2
    go_ret
    exact ⟨by simp [ex, H0.out], B2.out⟩
  | false =>
    go_wp2
    go_ret
    exact ⟨by simp [ex, H0.out, bne, BEq.beq], B2.out⟩

theorem wrong_b {w : World} (a b n : Int) : Calls Tryz.prog 195 #[spanV a b, .int .i64 n] w fun e w' => ∃ x, Hid (wr a b n = x) ∧ e = .returned (.bool x) ∧ Hid (Below w.heap.size w w') :=
  (wrong_any a b n).mono fun e w' ⟨h, h'⟩ => ⟨_, hid rfl, h, h'⟩
theorem extra_b {w : World} (a b n : Int) : Calls Tryz.prog 196 #[spanV a b, .int .i64 n] w fun e w' => ∃ x, Hid (ex b n = x) ∧ e = .returned (.bool x) ∧ Hid (Below w.heap.size w w') :=
  (extra_any a b n).mono fun e w' ⟨h, h'⟩ => ⟨_, hid rfl, h, h'⟩
end Go.Proofs.YtdhkdniddjnigaaGreatDoor

namespace Go.Proofs.YtdhkdniddjnigaaGreatDoor
open Go.RowKit
set_option linter.unusedVariables false

abbrev opV (k : Int) (nm tx : ByteArray) (n m : Int) : Value := .agg #[.int .i64 k, .string nm, .string tx, .int .i64 n, .int .i64 m]
abbrev opB (k : Int) (nm tx : ByteArray) (n m : Int) : Obj := .cells #[.int .i64 k, .string nm, .string tx, .int .i64 n, .int .i64 m] 55

/-- What Check tells of an op whose kind may be, by the row of its kind. -/
def chkR (a0 a1 a2 a3 a4 a5 a6 a7 : Int) (s t n m : Int) : Int :=
  if wr a0 a1 s then 51 else if wr a2 a3 t then 52 else if wr a4 a5 n then 53 else if wr a6 a7 m then 54
  else if ex a1 s then 55 else if ex a3 t then 55 else if ex a5 n then 55 else if ex a7 m then 55 else 0

/-- The op and the row of its kind lie in two blocks of their own. -/
structure Two (w w1 : World) (o f : Obj) : Prop where
  op : w1.heap[w.heap.size]? = some o
  row : w1.heap[w.heap.size + 1]? = some f
  lt : w.heap.size + 1 < w1.heap.size
  below : Below w.heap.size w w1

theorem Two.first (w : World) (o f : Obj) : Two w ((w.alloc o).alloc f) o f := by
  have h1 := heap_alloc_new w o
  have h2 := heap_alloc_new (w.alloc o) f
  have hs : (w.alloc o).heap.size = w.heap.size + 1 := by simp
  rw [hs] at h2
  refine ⟨?_, h2, by simp, b2 (ba w o) (ba _ f)⟩
  rw [(ba (w.alloc o) f).block _ (by simp)]; exact h1
theorem Two.next {w w1 w2 : World} {o f : Obj} (h : Two w w1 o f) (hb : Below w1.heap.size w1 w2) : Two w w2 o f :=
  ⟨by rw [hb.block _ (Nat.lt_of_succ_lt h.lt)]; exact h.op, by rw [hb.block _ h.lt]; exact h.row, Nat.lt_of_lt_of_le h.lt hb.size, b2 h.below hb⟩

set_option maxHeartbeats 3200000 in
set_option maxRecDepth 1000000 in
theorem check_row {w : World} (k : Nat) (hk1 : 1 ≤ k) (hk8 : k ≤ 8) (nm tx : ByteArray) (n m : Int) (a0 a1 a2 a3 a4 a5 a6 a7 : Int)
    (c0 : w.cell? ⟨3, k * 8, none⟩ = some (.int .i64 a0))
    (c1 : w.cell? ⟨3, k * 8 + 1, none⟩ = some (.int .i64 a1))
    (c2 : w.cell? ⟨3, k * 8 + 2, none⟩ = some (.int .i64 a2))
    (c3 : w.cell? ⟨3, k * 8 + 3, none⟩ = some (.int .i64 a3))
    (c4 : w.cell? ⟨3, k * 8 + 4, none⟩ = some (.int .i64 a4))
    (c5 : w.cell? ⟨3, k * 8 + 5, none⟩ = some (.int .i64 a5))
    (c6 : w.cell? ⟨3, k * 8 + 6, none⟩ = some (.int .i64 a6))
    (c7 : w.cell? ⟨3, k * 8 + 7, none⟩ = some (.int .i64 a7))
    (h0 : 3 < w.heap.size) :
    Calls Tryz.prog 169 #[opV k nm tx n m] w fun e w' => e = .returned (.int .i64 (chkR a0 a1 a2 a3 a4 a5 a6 a7 nm.size tx.size n m)) ∧ Below w.heap.size w w' := by
  have A0 := fun o => cell_under (ba w o) h0 c0
  have A1 := fun o => cell_under (ba w o) h0 c1
  have A2 := fun o => cell_under (ba w o) h0 c2
  have A3 := fun o => cell_under (ba w o) h0 c3
  have A4 := fun o => cell_under (ba w o) h0 c4
  have A5 := fun o => cell_under (ba w o) h0 c5
  have A6 := fun o => cell_under (ba w o) h0 c6
  have A7 := fun o => cell_under (ba w o) h0 c7
  clear c0 c1 c2 c3 c4 c5 c6 c7 h0
  go_enter Tryz.func169, Tryz.ntmps169
  go_wp2_with fail
  refine (wrong_b _ _ _).mono ?_
  rintro e w1 ⟨x, H0, rfl, B⟩
  have T := hid ((Two.first w _ _).next B.out)
  clear B A0 A1 A2 A3 A4 A5 A6 A7
  have o1 : w1.cell? ⟨w.heap.size, 1, none⟩ = some ((.string nm)) := by rw [cell_at T.out.op]; rfl
  have o2 : w1.cell? ⟨w.heap.size, 2, none⟩ = some ((.string tx)) := by rw [cell_at T.out.op]; rfl
  have o3 : w1.cell? ⟨w.heap.size, 3, none⟩ = some ((.int .i64 n)) := by rw [cell_at T.out.op]; rfl
  have o4 : w1.cell? ⟨w.heap.size, 4, none⟩ = some ((.int .i64 m)) := by rw [cell_at T.out.op]; rfl
  have r0 : w1.cell? ⟨w.heap.size + 1, 0, none⟩ = some (.int .i64 a0) := by rw [cell_at T.out.row]; rfl
  have r1 : w1.cell? ⟨w.heap.size + 1, 1, none⟩ = some (.int .i64 a1) := by rw [cell_at T.out.row]; rfl
  have r2 : w1.cell? ⟨w.heap.size + 1, 2, none⟩ = some (.int .i64 a2) := by rw [cell_at T.out.row]; rfl
  have r3 : w1.cell? ⟨w.heap.size + 1, 3, none⟩ = some (.int .i64 a3) := by rw [cell_at T.out.row]; rfl
  have r4 : w1.cell? ⟨w.heap.size + 1, 4, none⟩ = some (.int .i64 a4) := by rw [cell_at T.out.row]; rfl
  have r5 : w1.cell? ⟨w.heap.size + 1, 5, none⟩ = some (.int .i64 a5) := by rw [cell_at T.out.row]; rfl
  have r6 : w1.cell? ⟨w.heap.size + 1, 6, none⟩ = some (.int .i64 a6) := by rw [cell_at T.out.row]; rfl
  have r7 : w1.cell? ⟨w.heap.size + 1, 7, none⟩ = some (.int .i64 a7) := by rw [cell_at T.out.row]; rfl
  cases x with
  | true =>
    go_wp2
    go_ret
    exact ⟨by simp [chkR, H0.out], T.out.below⟩
  | false =>
    go_wp2_with fail
    refine (wrong_b _ _ _).mono ?_
    rintro e w2 ⟨x, H1, rfl, B⟩
    have T := hid (T.out.next B.out)
    clear B o1 o2 o3 o4 r0 r1 r2 r3 r4 r5 r6 r7
    have o1 : w2.cell? ⟨w.heap.size, 1, none⟩ = some ((.string nm)) := by rw [cell_at T.out.op]; rfl
    have o2 : w2.cell? ⟨w.heap.size, 2, none⟩ = some ((.string tx)) := by rw [cell_at T.out.op]; rfl
    have o3 : w2.cell? ⟨w.heap.size, 3, none⟩ = some ((.int .i64 n)) := by rw [cell_at T.out.op]; rfl
    have o4 : w2.cell? ⟨w.heap.size, 4, none⟩ = some ((.int .i64 m)) := by rw [cell_at T.out.op]; rfl
    have r0 : w2.cell? ⟨w.heap.size + 1, 0, none⟩ = some (.int .i64 a0) := by rw [cell_at T.out.row]; rfl
    have r1 : w2.cell? ⟨w.heap.size + 1, 1, none⟩ = some (.int .i64 a1) := by rw [cell_at T.out.row]; rfl
    have r2 : w2.cell? ⟨w.heap.size + 1, 2, none⟩ = some (.int .i64 a2) := by rw [cell_at T.out.row]; rfl
    have r3 : w2.cell? ⟨w.heap.size + 1, 3, none⟩ = some (.int .i64 a3) := by rw [cell_at T.out.row]; rfl
    have r4 : w2.cell? ⟨w.heap.size + 1, 4, none⟩ = some (.int .i64 a4) := by rw [cell_at T.out.row]; rfl
    have r5 : w2.cell? ⟨w.heap.size + 1, 5, none⟩ = some (.int .i64 a5) := by rw [cell_at T.out.row]; rfl
    have r6 : w2.cell? ⟨w.heap.size + 1, 6, none⟩ = some (.int .i64 a6) := by rw [cell_at T.out.row]; rfl
    have r7 : w2.cell? ⟨w.heap.size + 1, 7, none⟩ = some (.int .i64 a7) := by rw [cell_at T.out.row]; rfl
    cases x with
    | true =>
      go_wp2
      go_ret
      exact ⟨by simp [chkR, H0.out, H1.out], T.out.below⟩
    | false =>
      go_wp2_with fail
      refine (wrong_b _ _ _).mono ?_
      rintro e w3 ⟨x, H2, rfl, B⟩
      have T := hid (T.out.next B.out)
      clear B o1 o2 o3 o4 r0 r1 r2 r3 r4 r5 r6 r7
      have o1 : w3.cell? ⟨w.heap.size, 1, none⟩ = some ((.string nm)) := by rw [cell_at T.out.op]; rfl
      have o2 : w3.cell? ⟨w.heap.size, 2, none⟩ = some ((.string tx)) := by rw [cell_at T.out.op]; rfl
      have o3 : w3.cell? ⟨w.heap.size, 3, none⟩ = some ((.int .i64 n)) := by rw [cell_at T.out.op]; rfl
      have o4 : w3.cell? ⟨w.heap.size, 4, none⟩ = some ((.int .i64 m)) := by rw [cell_at T.out.op]; rfl
      have r0 : w3.cell? ⟨w.heap.size + 1, 0, none⟩ = some (.int .i64 a0) := by rw [cell_at T.out.row]; rfl
      have r1 : w3.cell? ⟨w.heap.size + 1, 1, none⟩ = some (.int .i64 a1) := by rw [cell_at T.out.row]; rfl
      have r2 : w3.cell? ⟨w.heap.size + 1, 2, none⟩ = some (.int .i64 a2) := by rw [cell_at T.out.row]; rfl
      have r3 : w3.cell? ⟨w.heap.size + 1, 3, none⟩ = some (.int .i64 a3) := by rw [cell_at T.out.row]; rfl
      have r4 : w3.cell? ⟨w.heap.size + 1, 4, none⟩ = some (.int .i64 a4) := by rw [cell_at T.out.row]; rfl
      have r5 : w3.cell? ⟨w.heap.size + 1, 5, none⟩ = some (.int .i64 a5) := by rw [cell_at T.out.row]; rfl
      have r6 : w3.cell? ⟨w.heap.size + 1, 6, none⟩ = some (.int .i64 a6) := by rw [cell_at T.out.row]; rfl
      have r7 : w3.cell? ⟨w.heap.size + 1, 7, none⟩ = some (.int .i64 a7) := by rw [cell_at T.out.row]; rfl
      cases x with
      | true =>
        go_wp2
        go_ret
        exact ⟨by simp [chkR, H0.out, H1.out, H2.out], T.out.below⟩
      | false =>
        go_wp2_with fail
        refine (wrong_b _ _ _).mono ?_
        rintro e w4 ⟨x, H3, rfl, B⟩
        have T := hid (T.out.next B.out)
        clear B o1 o2 o3 o4 r0 r1 r2 r3 r4 r5 r6 r7
        have o1 : w4.cell? ⟨w.heap.size, 1, none⟩ = some ((.string nm)) := by rw [cell_at T.out.op]; rfl
        have o2 : w4.cell? ⟨w.heap.size, 2, none⟩ = some ((.string tx)) := by rw [cell_at T.out.op]; rfl
        have o3 : w4.cell? ⟨w.heap.size, 3, none⟩ = some ((.int .i64 n)) := by rw [cell_at T.out.op]; rfl
        have o4 : w4.cell? ⟨w.heap.size, 4, none⟩ = some ((.int .i64 m)) := by rw [cell_at T.out.op]; rfl
        have r0 : w4.cell? ⟨w.heap.size + 1, 0, none⟩ = some (.int .i64 a0) := by rw [cell_at T.out.row]; rfl
        have r1 : w4.cell? ⟨w.heap.size + 1, 1, none⟩ = some (.int .i64 a1) := by rw [cell_at T.out.row]; rfl
        have r2 : w4.cell? ⟨w.heap.size + 1, 2, none⟩ = some (.int .i64 a2) := by rw [cell_at T.out.row]; rfl
        have r3 : w4.cell? ⟨w.heap.size + 1, 3, none⟩ = some (.int .i64 a3) := by rw [cell_at T.out.row]; rfl
        have r4 : w4.cell? ⟨w.heap.size + 1, 4, none⟩ = some (.int .i64 a4) := by rw [cell_at T.out.row]; rfl
        have r5 : w4.cell? ⟨w.heap.size + 1, 5, none⟩ = some (.int .i64 a5) := by rw [cell_at T.out.row]; rfl
        have r6 : w4.cell? ⟨w.heap.size + 1, 6, none⟩ = some (.int .i64 a6) := by rw [cell_at T.out.row]; rfl
        have r7 : w4.cell? ⟨w.heap.size + 1, 7, none⟩ = some (.int .i64 a7) := by rw [cell_at T.out.row]; rfl
        cases x with
        | true =>
          go_wp2
          go_ret
          exact ⟨by simp [chkR, H0.out, H1.out, H2.out, H3.out], T.out.below⟩
        | false =>
          go_wp2_with fail
          refine (extra_b _ _ _).mono ?_
          rintro e w5 ⟨x, H4, rfl, B⟩
          have T := hid (T.out.next B.out)
          clear B o1 o2 o3 o4 r0 r1 r2 r3 r4 r5 r6 r7
          have o1 : w5.cell? ⟨w.heap.size, 1, none⟩ = some ((.string nm)) := by rw [cell_at T.out.op]; rfl
          have o2 : w5.cell? ⟨w.heap.size, 2, none⟩ = some ((.string tx)) := by rw [cell_at T.out.op]; rfl
          have o3 : w5.cell? ⟨w.heap.size, 3, none⟩ = some ((.int .i64 n)) := by rw [cell_at T.out.op]; rfl
          have o4 : w5.cell? ⟨w.heap.size, 4, none⟩ = some ((.int .i64 m)) := by rw [cell_at T.out.op]; rfl
          have r0 : w5.cell? ⟨w.heap.size + 1, 0, none⟩ = some (.int .i64 a0) := by rw [cell_at T.out.row]; rfl
          have r1 : w5.cell? ⟨w.heap.size + 1, 1, none⟩ = some (.int .i64 a1) := by rw [cell_at T.out.row]; rfl
          have r2 : w5.cell? ⟨w.heap.size + 1, 2, none⟩ = some (.int .i64 a2) := by rw [cell_at T.out.row]; rfl
          have r3 : w5.cell? ⟨w.heap.size + 1, 3, none⟩ = some (.int .i64 a3) := by rw [cell_at T.out.row]; rfl
          have r4 : w5.cell? ⟨w.heap.size + 1, 4, none⟩ = some (.int .i64 a4) := by rw [cell_at T.out.row]; rfl
          have r5 : w5.cell? ⟨w.heap.size + 1, 5, none⟩ = some (.int .i64 a5) := by rw [cell_at T.out.row]; rfl
          have r6 : w5.cell? ⟨w.heap.size + 1, 6, none⟩ = some (.int .i64 a6) := by rw [cell_at T.out.row]; rfl
          have r7 : w5.cell? ⟨w.heap.size + 1, 7, none⟩ = some (.int .i64 a7) := by rw [cell_at T.out.row]; rfl
          cases x with
          | true =>
            go_wp2
            go_ret
            exact ⟨by simp [chkR, H0.out, H1.out, H2.out, H3.out, H4.out], T.out.below⟩
          | false =>
            go_wp2_with fail
            refine (extra_b _ _ _).mono ?_
            rintro e w6 ⟨x, H5, rfl, B⟩
            have T := hid (T.out.next B.out)
            clear B o1 o2 o3 o4 r0 r1 r2 r3 r4 r5 r6 r7
            have o1 : w6.cell? ⟨w.heap.size, 1, none⟩ = some ((.string nm)) := by rw [cell_at T.out.op]; rfl
            have o2 : w6.cell? ⟨w.heap.size, 2, none⟩ = some ((.string tx)) := by rw [cell_at T.out.op]; rfl
            have o3 : w6.cell? ⟨w.heap.size, 3, none⟩ = some ((.int .i64 n)) := by rw [cell_at T.out.op]; rfl
            have o4 : w6.cell? ⟨w.heap.size, 4, none⟩ = some ((.int .i64 m)) := by rw [cell_at T.out.op]; rfl
            have r0 : w6.cell? ⟨w.heap.size + 1, 0, none⟩ = some (.int .i64 a0) := by rw [cell_at T.out.row]; rfl
            have r1 : w6.cell? ⟨w.heap.size + 1, 1, none⟩ = some (.int .i64 a1) := by rw [cell_at T.out.row]; rfl
            have r2 : w6.cell? ⟨w.heap.size + 1, 2, none⟩ = some (.int .i64 a2) := by rw [cell_at T.out.row]; rfl
            have r3 : w6.cell? ⟨w.heap.size + 1, 3, none⟩ = some (.int .i64 a3) := by rw [cell_at T.out.row]; rfl
            have r4 : w6.cell? ⟨w.heap.size + 1, 4, none⟩ = some (.int .i64 a4) := by rw [cell_at T.out.row]; rfl
            have r5 : w6.cell? ⟨w.heap.size + 1, 5, none⟩ = some (.int .i64 a5) := by rw [cell_at T.out.row]; rfl
            have r6 : w6.cell? ⟨w.heap.size + 1, 6, none⟩ = some (.int .i64 a6) := by rw [cell_at T.out.row]; rfl
            have r7 : w6.cell? ⟨w.heap.size + 1, 7, none⟩ = some (.int .i64 a7) := by rw [cell_at T.out.row]; rfl
            cases x with
            | true =>
              go_wp2
              go_ret
              exact ⟨by simp [chkR, H0.out, H1.out, H2.out, H3.out, H4.out, H5.out], T.out.below⟩
            | false =>
              go_wp2_with fail
              refine (extra_b _ _ _).mono ?_
              rintro e w7 ⟨x, H6, rfl, B⟩
              have T := hid (T.out.next B.out)
              clear B o1 o2 o3 o4 r0 r1 r2 r3 r4 r5 r6 r7
              have o1 : w7.cell? ⟨w.heap.size, 1, none⟩ = some ((.string nm)) := by rw [cell_at T.out.op]; rfl
              have o2 : w7.cell? ⟨w.heap.size, 2, none⟩ = some ((.string tx)) := by rw [cell_at T.out.op]; rfl
              have o3 : w7.cell? ⟨w.heap.size, 3, none⟩ = some ((.int .i64 n)) := by rw [cell_at T.out.op]; rfl
              have o4 : w7.cell? ⟨w.heap.size, 4, none⟩ = some ((.int .i64 m)) := by rw [cell_at T.out.op]; rfl
              have r0 : w7.cell? ⟨w.heap.size + 1, 0, none⟩ = some (.int .i64 a0) := by rw [cell_at T.out.row]; rfl
              have r1 : w7.cell? ⟨w.heap.size + 1, 1, none⟩ = some (.int .i64 a1) := by rw [cell_at T.out.row]; rfl
              have r2 : w7.cell? ⟨w.heap.size + 1, 2, none⟩ = some (.int .i64 a2) := by rw [cell_at T.out.row]; rfl
              have r3 : w7.cell? ⟨w.heap.size + 1, 3, none⟩ = some (.int .i64 a3) := by rw [cell_at T.out.row]; rfl
              have r4 : w7.cell? ⟨w.heap.size + 1, 4, none⟩ = some (.int .i64 a4) := by rw [cell_at T.out.row]; rfl
              have r5 : w7.cell? ⟨w.heap.size + 1, 5, none⟩ = some (.int .i64 a5) := by rw [cell_at T.out.row]; rfl
              have r6 : w7.cell? ⟨w.heap.size + 1, 6, none⟩ = some (.int .i64 a6) := by rw [cell_at T.out.row]; rfl
              have r7 : w7.cell? ⟨w.heap.size + 1, 7, none⟩ = some (.int .i64 a7) := by rw [cell_at T.out.row]; rfl
              cases x with
              | true =>
                go_wp2
                go_ret
                exact ⟨by simp [chkR, H0.out, H1.out, H2.out, H3.out, H4.out, H5.out, H6.out], T.out.below⟩
              | false =>
                go_wp2_with fail
                refine (extra_b _ _ _).mono ?_
                rintro e w8 ⟨x, H7, rfl, B⟩
                have T := hid (T.out.next B.out)
                clear B o1 o2 o3 o4 r0 r1 r2 r3 r4 r5 r6 r7
                have o1 : w8.cell? ⟨w.heap.size, 1, none⟩ = some ((.string nm)) := by rw [cell_at T.out.op]; rfl
                have o2 : w8.cell? ⟨w.heap.size, 2, none⟩ = some ((.string tx)) := by rw [cell_at T.out.op]; rfl
                have o3 : w8.cell? ⟨w.heap.size, 3, none⟩ = some ((.int .i64 n)) := by rw [cell_at T.out.op]; rfl
                have o4 : w8.cell? ⟨w.heap.size, 4, none⟩ = some ((.int .i64 m)) := by rw [cell_at T.out.op]; rfl
                have r0 : w8.cell? ⟨w.heap.size + 1, 0, none⟩ = some (.int .i64 a0) := by rw [cell_at T.out.row]; rfl
                have r1 : w8.cell? ⟨w.heap.size + 1, 1, none⟩ = some (.int .i64 a1) := by rw [cell_at T.out.row]; rfl
                have r2 : w8.cell? ⟨w.heap.size + 1, 2, none⟩ = some (.int .i64 a2) := by rw [cell_at T.out.row]; rfl
                have r3 : w8.cell? ⟨w.heap.size + 1, 3, none⟩ = some (.int .i64 a3) := by rw [cell_at T.out.row]; rfl
                have r4 : w8.cell? ⟨w.heap.size + 1, 4, none⟩ = some (.int .i64 a4) := by rw [cell_at T.out.row]; rfl
                have r5 : w8.cell? ⟨w.heap.size + 1, 5, none⟩ = some (.int .i64 a5) := by rw [cell_at T.out.row]; rfl
                have r6 : w8.cell? ⟨w.heap.size + 1, 6, none⟩ = some (.int .i64 a6) := by rw [cell_at T.out.row]; rfl
                have r7 : w8.cell? ⟨w.heap.size + 1, 7, none⟩ = some (.int .i64 a7) := by rw [cell_at T.out.row]; rfl
                cases x with
                | true =>
                  go_wp2
                  go_ret
                  exact ⟨by simp [chkR, H0.out, H1.out, H2.out, H3.out, H4.out, H5.out, H6.out, H7.out], T.out.below⟩
                | false =>
                  go_wp2
                  go_ret
                  exact ⟨by simp [chkR, H0.out, H1.out, H2.out, H3.out, H4.out, H5.out, H6.out, H7.out], T.out.below⟩
end Go.Proofs.YtdhkdniddjnigaaGreatDoor

namespace Go.Proofs.YtdhkdniddjnigaaGreatDoor
open Go.RowKit
set_option linter.unusedVariables false

theorem mem2 {c d : Comp} {cs : List Comp} : d ∈ c :: d :: cs := List.mem_cons_of_mem _ List.mem_cons_self

theorem mem3 {a b c : Comp} {cs : List Comp} : c ∈ a :: b :: c :: cs := List.mem_cons_of_mem _ mem2
theorem str_len (nm : ByteArray) : nm.data.toList.length = nm.size := Array.length_toList
/-- What Check tells of a kind that may be. -/
def chkT (k : Nat) (s t n m : Int) : Int := chkR (formN.getD (k * 8) 0) (formN.getD (k * 8 + 1) 0) (formN.getD (k * 8 + 2) 0) (formN.getD (k * 8 + 3) 0) (formN.getD (k * 8 + 4) 0) (formN.getD (k * 8 + 5) 0) (formN.getD (k * 8 + 6) 0) (formN.getD (k * 8 + 7) 0) s t n m

theorem check_tab {w : World} (h : Tab w) (k : Nat) (h1 : 1 ≤ k) (h8 : k ≤ 8) (nm tx : ByteArray) (n m : Int) : Calls Tryz.prog 169 #[opV k nm tx n m] w fun e w' => e = .returned (.int .i64 (chkT k nm.size tx.size n m)) ∧ Below w.heap.size w w' :=
  check_row k h1 h8 nm tx n m _ _ _ _ _ _ _ _ (h.cell _ (by omega)) (h.cell _ (by omega)) (h.cell _ (by omega)) (h.cell _ (by omega)) (h.cell _ (by omega)) (h.cell _ (by omega)) (h.cell _ (by omega)) (h.cell _ (by omega)) h.lt

/-- What Check tells, of any op. -/
def chkA (k : Int) (s t n m : Int) : Int := if k < 1 ∨ 8 < k then 50 else chkT k.toNat s t n m
theorem chkA_in {k : Int} (h1 : 1 ≤ k) (h8 : k ≤ 8) (s t n m : Int) : chkA k s t n m = chkT k.toNat s t n m := by unfold chkA; rw [if_neg (by omega)]
theorem chkA_out {k : Int} (h : k < 1 ∨ 8 < k) (s t n m : Int) : chkA k s t n m = 50 := by unfold chkA; rw [if_pos h]

set_option maxRecDepth 1000000 in
theorem check_out {w : World} {k : Int} (h : k < 1 ∨ 8 < k) (nm tx : ByteArray) (n m : Int) : Calls Tryz.prog 169 #[opV k nm tx n m] w fun e w' => e = .returned (.int .i64 50) ∧ Below w.heap.size w w' := by
  by_cases h1 : k < 1
  · have e1 : decide (k < 1) = true := by simpa using h1
    clear h
    go_enter Tryz.func169, Tryz.ntmps169
    go_wp2
    go_ret
    exact ⟨rfl, ba _ _⟩
  · have e1 : decide (k < 1) = false := by simpa using h1
    have e2 : decide (8 < k) = true := by simp; omega
    clear h
    go_enter Tryz.func169, Tryz.ntmps169
    go_wp2
    go_ret
    exact ⟨rfl, ba _ _⟩
theorem check_any {w : World} (hT : Tab w) (k : Int) (nm tx : ByteArray) (n m : Int) : Calls Tryz.prog 169 #[opV k nm tx n m] w fun e w' => e = .returned (.int .i64 (chkA k nm.size tx.size n m)) ∧ Below w.heap.size w w' := by
  by_cases h : k < 1 ∨ 8 < k
  · rw [chkA_out h]
    exact check_out h nm tx n m
  · rw [chkA_in (by omega) (by omega)]
    have := check_tab hT k.toNat (by omega) (by omega) nm tx n m
    rw [show ((k.toNat : Nat) : Int) = k by omega] at this
    exact this
end Go.Proofs.YtdhkdniddjnigaaGreatDoor

namespace Go.Proofs.YtdhkdniddjnigaaGreatDoor
open Go.RowKit
set_option linter.unusedVariables false
/-- A row of one's own, whatever its elements' size. -/
def rowC (e : TypeId) (size : Nat) (v : Value) (n : Nat) (vs : List Value) : Comp := ⟨fun w => w.ownsRow 0 e size v n vs, v.ownBlock.toList⟩
theorem owns_keep {w w' : World} {e : TypeId} {size n : Nat} {v : Value} {vs : List Value} (h : w.ownsRow 0 e size v n vs) (hb : ∀ k ∈ v.ownBlock.toList, w'.heap[k]? = w.heap[k]?) : w'.ownsRow 0 e size v n vs :=
  ⟨h.1, by
    rcases h.2 with hn | ⟨g, cap, cur, rfl, hg, hgg, rest⟩
    · exact Or.inl hn
    · exact Or.inr ⟨g, cap, cur, rfl, hg, by rw [hb g (by simp [Value.ownBlock])]; exact hgg, rest⟩⟩
theorem rowC_good (e : TypeId) (size : Nat) (v : Value) (n : Nat) (vs : List Value) : (rowC e size v n vs).Good := fun w w' h hs hb => owns_keep h hb
theorem All.addRow0 {e : TypeId} {size : Nat} {cs : List Comp} {w : World} (h : All cs w) : All (rowC e size (.slice none 0 0) 0 [] :: cs) w :=
  ⟨⟨rowC_good _ _ _ _ _, ⟨by simp, Or.inl ⟨rfl, rfl⟩⟩, fun k hk => by simp [rowC, Value.ownBlock] at hk⟩, fun d hd k hk => by simp [rowC, Value.ownBlock] at hk, h⟩
theorem All.rowGrow {e : TypeId} {size n n' : Nat} {v v' : Value} {vs vs' : List Value} {cs : List Comp} {w w1 : World} {base : Nat} (h : All (rowC e size v n vs :: cs) w) (hown : w1.ownsRow base e size v' n' vs') (hg : w.grownBy w1 v.ownBlock) (hat : v'.ownBlock = v.ownBlock ∨ v'.ownBlock = some w.heap.size) : All (rowC e size v' n' vs' :: cs) w1 := by
  have ho' := owns_zero hown
  refine h.turn ((grown_fr hg).mono (fun k hk => by simpa [rowC] using hk)) (rowC_good _ _ _ _ _) ho' (fun k hk => ?_) (fun k hk => ?_)
  · have hk' : v'.ownBlock = some k := by simpa [rowC] using hk
    rcases hat with e1 | e1
    · exact Or.inl (by simp [rowC, ← e1, hk'])
    · rw [e1] at hk'; simp at hk'; exact Or.inr (by omega)
  · have hk' : v'.ownBlock = some k := by simpa [rowC] using hk
    exact (ho'.lt k hk').2
/-- Elements are laid behind a row of one's own. -/
theorem appN {W : World} {e t : TypeId} {i : TypeInfo} {z v : Value} {size bytes n m c : Nat} {us news : List Value} {cs : List Comp} (hu : Tryz.prog.underlying t = some (.slice e)) (hi : Tryz.prog.info? e = some i) (hz : i.zero = some z) (hsize : i.size = size) (hby : i.bytes = bytes) (hzs : z.cells.size = size) (hsz : 0 < size)
    (A : All (rowC e size v n us :: cs) W) (ao2 : Option Addr) (hl : news.length = m * size) (hnews : 0 < m → ∃ a, ao2 = some a ∧ ∀ j u, news[j]? = some u → W.cell? (a.add j) = some u) (h1 : ∀ u ∈ news, u.oneCell' = true) (h63 : n + m ≤ maxLen) (hb : (n + m) * bytes ≤ 140737488355328) :
    ∃ ao cap w', (Builtin.append_ #[t, t] t #[v, .slice ao2 m c]).run Tryz.prog W = .ok (.slice ao (n + m) cap) w' ∧ All (rowC e size (.slice ao (n + m) cap) (n + m) (us ++ news) :: cs) w' := by
  have hown : W.ownsRow 0 e size v n us := A.1.2.1
  by_cases hm : 0 < m
  · obtain ⟨a, rfl, hc⟩ := hnews hm
    obtain ⟨v', w', hr, h2, h3, h4, h5⟩ := run_append_own_at (P := Tryz.prog) W 0 t t e i z size bytes hu hi hz hsize hby hzs hsz v n us hown a m c news hl hc h1 h63 hb (by omega)
    obtain ⟨ao, cap, rfl⟩ := owns_form h2
    exact ⟨ao, cap, w', hr, A.rowGrow (base := 0) h2 h3 h5⟩
  · have hm0 : m = 0 := by omega
    subst hm0
    have hn0 : news = [] := List.length_eq_zero_iff.1 (by omega)
    subst hn0
    subst hsize
    rw [List.append_nil]
    rcases hown.2 with ⟨rfl, rfl⟩ | ⟨g, cap, cur, rfl, _, _, hle, _⟩
    · exact ⟨none, 0, W, run_append_nothing W t t t e i hu hi none 0 0 (Nat.le_refl _) _ (srcNil hu ao2 c), A⟩
    · exact ⟨_, cap, W, run_append_nothing W t t t e i hu hi _ n cap hle _ (srcNil hu ao2 c), A⟩
theorem All.addRowE {cs : List Comp} {w : World} (h : All cs w) (e : TypeId) (size : Nat) : All (rowC e size (.slice (some ⟨w.heap.size, 0, none⟩) 0 0) 0 [] :: cs) (w.alloc (.cells #[] e)) := by
  refine h.add (Fr.below (ba w _)) (rowC_good _ _ _ _ _) ?_ (fun k hk => ?_)
  · exact ⟨by simp, Or.inr ⟨w.heap.size, 0, #[], rfl, Nat.zero_le _, heap_alloc_new w _, Nat.le_refl _, by unfold maxLen; omega, by simp, by simp⟩⟩
  · have : k = w.heap.size := by simpa [rowC, Value.ownBlock, eq_comm] using hk
    subst this
    exact ⟨Nat.le_refl _, by simp⟩
/-- A row of one's own is read. -/
theorem row_at {w : World} {base : Nat} {e : TypeId} {size : Nat} {ao : Option Addr} {n c n' : Nat} {us : List Value} (h : w.ownsRow base e size (.slice ao n' c) n us) {k : Nat} {u : Value} (hu : us[k]? = some u) : ∃ g, ao = some ⟨g, 0, none⟩ ∧ g < w.heap.size ∧ w.cell? ⟨g, k, none⟩ = some u := by
  have hk := (List.getElem?_eq_some_iff.1 hu).1
  have hl := h.1
  rcases h.2 with ⟨e, e2⟩ | ⟨g, cap, cur, e, _, hg, hn, hm, hcs, ht⟩
  · subst e2; omega
  · simp only [Value.slice.injEq] at e
    refine ⟨g, e.1, (Array.getElem?_eq_some_iff.1 hg).1, ?_⟩
    rw [cell_at hg, ← Array.getElem?_toList]
    rw [← ht, List.getElem?_take, if_pos (by omega)] at hu
    exact hu
theorem row_cap {w : World} {base : Nat} {e : TypeId} {size : Nat} {ao : Option Addr} {n c n' : Nat} {us : List Value} (h : w.ownsRow base e size (.slice ao n' c) n us) : n' = n ∧ n ≤ c ∧ c ≤ maxLen := by
  rcases h.2 with ⟨e, e2⟩ | ⟨g, cap, cur, e, _, hg, hn, hm, hcs, ht⟩
  · simp only [Value.slice.injEq] at e
    obtain ⟨_, rfl, rfl⟩ := e
    exact ⟨e2.symm, by omega, by unfold maxLen; omega⟩
  · simp only [Value.slice.injEq] at e
    obtain ⟨_, rfl, rfl⟩ := e
    exact ⟨rfl, hn, hm⟩
theorem flat_len {α : Type} {f : α → List Value} {s : Nat} (hf : ∀ x, (f x).length = s) (l : List α) : (l.flatMap f).length = l.length * s := by
  induction l with
  | nil => simp
  | cons x l ih => rw [List.flatMap_cons, List.length_append, ih, hf, List.length_cons, Nat.succ_mul]; omega
theorem flat_at {α : Type} {f : α → List Value} {s : Nat} (hf : ∀ x, (f x).length = s) {l : List α} {i : Nat} {x : α} (hx : l[i]? = some x) {j : Nat} (hj : j < s) : (l.flatMap f)[i * s + j]? = (f x)[j]? := by
  induction l generalizing i with
  | nil => simp at hx
  | cons y l ih =>
    rw [List.flatMap_cons]
    cases i with
    | zero =>
      simp only [List.getElem?_cons_zero, Option.some.injEq] at hx
      subst hx
      rw [Nat.zero_mul, Nat.zero_add, List.getElem?_append_left (by rw [hf]; exact hj)]
    | succ i =>
      simp only [List.getElem?_cons_succ] at hx
      rw [List.getElem?_append_right (by rw [hf, Nat.succ_mul]; omega), hf, ← ih hx]
      congr 1
      rw [Nat.succ_mul]; omega
theorem flat_one {α : Type} {f : α → List Value} (hf : ∀ x, ∀ u ∈ f x, u.oneCell' = true) (l : List α) : ∀ u ∈ l.flatMap f, u.oneCell' = true := by
  intro u hu
  obtain ⟨x, _, h⟩ := List.mem_flatMap.1 hu
  exact hf x u h
/-- Cells that are read element by element are read as a row. -/
theorem flat_src {α : Type} {f : α → List Value} {s : Nat} (hs : 0 < s) (hf : ∀ x, (f x).length = s) {W : World} {ao : Option Addr} {l : List α} (h : ∀ (i : Nat) (x : α), l[i]? = some x → ∃ g o, ao = some ⟨g, o, none⟩ ∧ g < W.heap.size ∧ ∀ j u, (f x)[j]? = some u → W.cell? ⟨g, o + i * s + j, none⟩ = some u) :
    0 < l.length → ∃ a, ao = some a ∧ ∀ j u, (l.flatMap f)[j]? = some u → W.cell? (a.add j) = some u := by
  intro h0
  obtain ⟨g, o, rfl, _, _⟩ := h 0 _ (List.getElem?_eq_getElem h0)
  refine ⟨_, rfl, fun j u hu => ?_⟩
  have hj : j < l.length * s := by have := (List.getElem?_eq_some_iff.1 hu).1; rwa [flat_len hf] at this
  have hd : j / s < l.length := Nat.div_lt_of_lt_mul (by rw [Nat.mul_comm]; exact hj)
  obtain ⟨g', o', e, _, hc⟩ := h (j / s) _ (List.getElem?_eq_getElem hd)
  cases e
  have hm : j % s < s := Nat.mod_lt _ hs
  have h1 := flat_at hf (List.getElem?_eq_getElem hd) hm
  have h2 : j / s * s + j % s = j := by rw [Nat.mul_comm]; exact Nat.div_add_mod j s
  rw [h2, hu] at h1
  have h3 := hc (j % s) u h1.symm
  rw [Addr.add_lit]
  rw [show o + j / s * s + j % s = o + j by omega] at h3
  exact h3
/-- A row of one's own is read element by element. -/
theorem flat_row {α : Type} {f : α → List Value} {s : Nat} (hf : ∀ x, (f x).length = s) {W : World} {base : Nat} {e : TypeId} {ao : Option Addr} {n n' c : Nat} {l : List α} (hs : 0 < s) (h : W.ownsRow base e s (.slice ao n' c) n (l.flatMap f)) :
    ∀ (i : Nat) (x : α), l[i]? = some x → ∃ g o, ao = some ⟨g, o, none⟩ ∧ g < W.heap.size ∧ ∀ j u, (f x)[j]? = some u → W.cell? ⟨g, o + i * s + j, none⟩ = some u := by
  intro i x hx
  have hi := (List.getElem?_eq_some_iff.1 hx).1
  have hat : ∀ j u, (f x)[j]? = some u → ∃ g, ao = some ⟨g, 0, none⟩ ∧ g < W.heap.size ∧ W.cell? ⟨g, i * s + j, none⟩ = some u := by
    intro j u hu
    have hj : j < s := by have := (List.getElem?_eq_some_iff.1 hu).1; rwa [hf] at this
    exact row_at h (by rw [flat_at hf hx hj]; exact hu)
  obtain ⟨g, rfl, hg, _⟩ := hat 0 _ (List.getElem?_eq_getElem (by rw [hf]; exact hs))
  refine ⟨g, 0, rfl, hg, fun j u hu => ?_⟩
  obtain ⟨g', e, _, hc⟩ := hat j u hu
  cases e
  rw [Nat.zero_add]
  exact hc

end Go.Proofs.YtdhkdniddjnigaaGreatDoor

namespace Go.Proofs.YtdhkdniddjnigaaGreatDoor
set_option linter.unusedVariables false

/-- Digits read from the left; what is above the greatest number is none. -/
def decN : Nat → List UInt8 → Option Nat
  | acc, [] => some acc
  | acc, c :: r => if 48 ≤ c.toNat ∧ c.toNat ≤ 57 then (if 10 * acc + (c.toNat - 48) ≤ 9223372036854775807 then decN (10 * acc + (c.toNat - 48)) r else none) else none
/-- A number as it is written. -/
def numW (l : List UInt8) : Option Nat := if l = [] ∨ (1 < l.length ∧ l.head? = some 48) then none else decN 0 l

theorem decN_append (a b : List UInt8) : ∀ acc, decN acc (a ++ b) = (decN acc a).bind fun x => decN x b := by
  induction a with
  | nil => intro acc; simp [decN]
  | cons c r ih =>
    intro acc
    simp only [List.cons_append, decN]
    split
    · split
      · exact ih _
      · rfl
    · rfl
theorem toNat_dig {d : Nat} (h : d < 10) : (UInt8.ofNat (48 + d)).toNat = 48 + d := by simp; omega
theorem decN_one {acc d : Nat} (hd : d < 10) (h : 10 * acc + d ≤ 9223372036854775807) : decN acc [UInt8.ofNat (48 + d)] = some (10 * acc + d) := by
  simp only [decN]
  rw [toNat_dig hd, if_pos ⟨by omega, by omega⟩, if_pos (by omega)]
  congr 1
  omega
theorem decN_digits : ∀ v : Nat, v ≤ 9223372036854775807 → decN 0 (Lib.decDigits v) = some v := by
  intro v
  induction v using Nat.strongRecOn with
  | _ v ih =>
    intro hv
    rw [Lib.decDigits]
    split
    · rename_i h
      rw [decN_one h (by omega)]
      simp
    · rename_i h
      rw [decN_append, ih (v / 10) (by omega) (by omega), Option.bind_some, decN_one (by omega) (by omega)]
      congr 1
      omega
theorem digits_ne (v : Nat) : Lib.decDigits v ≠ [] := by
  rw [Lib.decDigits]
  split <;> simp
theorem digits_head : ∀ v : Nat, 1 ≤ v → (Lib.decDigits v).head? ≠ some 48 := by
  intro v
  induction v using Nat.strongRecOn with
  | _ v ih =>
    intro hv
    rw [Lib.decDigits]
    split
    · rename_i h
      simp only [List.head?_cons, ne_eq, Option.some.injEq]
      intro e
      have := congrArg UInt8.toNat e
      rw [toNat_dig h] at this
      simp at this
      omega
    · rename_i h
      have := ih (v / 10) (by omega) (by omega)
      cases hd : Lib.decDigits (v / 10) with
      | nil => exact absurd hd (digits_ne _)
      | cons a b => rw [hd] at this; simpa using this
theorem digits_long {v : Nat} (h : 1 < (Lib.decDigits v).length) : 1 ≤ v := by
  apply Classical.byContradiction
  intro hn
  have : v = 0 := by omega
  subst this
  rw [Lib.decDigits] at h
  simp at h
theorem digits_len : ∀ (k v : Nat), v < 10 ^ (k + 1) → (Lib.decDigits v).length ≤ k + 1
  | 0, v, h => by rw [Lib.decDigits, dif_pos (by simpa using h)]; simp
  | k + 1, v, h => by
    rw [Lib.decDigits]
    split
    · simp
    · rw [List.length_append]
      have := digits_len k (v / 10) (by rw [Nat.pow_succ] at h; omega)
      simp only [List.length_cons, List.length_nil]
      omega
theorem digits_short {v : Nat} (h : v ≤ 9223372036854775807) : (Lib.decDigits v).length ≤ 19 := digits_len 18 v (by omega)
theorem numW_digits {v : Nat} (h : v ≤ 9223372036854775807) : numW (Lib.decDigits v) = some v := by
  unfold numW
  rw [if_neg]
  · exact decN_digits v h
  · rintro (e | ⟨h1, h2⟩)
    · exact digits_ne _ e
    · exact digits_head v (digits_long h1) h2
theorem decN_le : ∀ {l : List UInt8} {acc v : Nat}, acc ≤ 9223372036854775807 → decN acc l = some v → v ≤ 9223372036854775807
  | [], acc, v, ha, h => by simp only [decN, Option.some.injEq] at h; omega
  | c :: r, acc, v, ha, h => by
    simp only [decN] at h
    split at h
    · split at h
      · exact decN_le (by assumption) h
      · simp at h
    · simp at h
theorem numW_le {l : List UInt8} {v : Nat} (h : numW l = some v) : v ≤ 9223372036854775807 := by
  unfold numW at h
  split at h
  · simp at h
  · exact decN_le (by omega) h
theorem byte_of (c : UInt8) (h : 48 ≤ c.toNat) : UInt8.ofNat (48 + (c.toNat - 48)) = c := by
  rw [show 48 + (c.toNat - 48) = c.toNat by omega]
  simp
theorem snoc_cases (l : List UInt8) : l = [] ∨ ∃ m c, l = m ++ [c] := by
  rcases List.eq_nil_or_concat l with h | ⟨m, c, h⟩
  · exact Or.inl h
  · exact Or.inr ⟨m, c, by rw [h, List.concat_eq_append]⟩
theorem digits_of : ∀ (n : Nat) (l : List UInt8) (v : Nat), l.length = n → numW l = some v → l = Lib.decDigits v := by
  intro n
  induction n with
  | zero =>
    intro l v hl h
    have : l = [] := List.eq_nil_of_length_eq_zero hl
    subst this
    simp [numW] at h
  | succ n ih =>
    intro l v hl h
    rcases snoc_cases l with rfl | ⟨m, c, rfl⟩
    · simp at hl
    unfold numW at h
    split at h
    · simp at h
    rename_i hno
    rw [decN_append] at h
    cases hm : decN 0 m with
    | none => rw [hm] at h; simp at h
    | some u =>
      rw [hm, Option.bind_some] at h
      simp only [decN] at h
      split at h
      · rename_i hc
        split at h
        · rename_i hle
          simp only [Option.some.injEq] at h
          subst h
          by_cases hm0 : m = []
          · subst hm0
            simp only [decN, Option.some.injEq] at hm
            subst hm
            rw [Lib.decDigits, dif_pos (by omega)]
            simp only [List.nil_append, Nat.mul_zero, Nat.zero_add]
            rw [byte_of c hc.1]
          · have hml : 1 ≤ m.length := List.length_pos_iff.2 hm0
            have hh : m.head? = (m ++ [c]).head? := by
              cases m with
              | nil => exact absurd rfl hm0
              | cons a b => rfl
            have hnh : m.head? ≠ some 48 := by
              intro e
              exact hno (Or.inr ⟨by simp; omega, by rw [← hh]; exact e⟩)
            have hnm : numW m = some u := by
              unfold numW
              rw [if_neg (by rintro (e | ⟨_, e⟩); exact hm0 e; exact hnh e)]
              exact hm
            have hmd := ih m u (by simp at hl; omega) hnm
            have hu : 1 ≤ u := by
              apply Classical.byContradiction
              intro hn
              have : u = 0 := by omega
              subst this
              rw [Lib.decDigits, dif_pos (by omega)] at hmd
              rw [hmd] at hnh
              exact hnh rfl
            have h10 : ¬ (10 * u + (c.toNat - 48)) < 10 := by omega
            rw [Lib.decDigits, dif_neg h10, show (10 * u + (c.toNat - 48)) / 10 = u by omega, ← hmd, show (10 * u + (c.toNat - 48)) % 10 = c.toNat - 48 by omega, byte_of c hc.1]
        · simp at h
      · simp at h
theorem numW_spelt {l : List UInt8} {v : Nat} (h : numW l = some v) : l = Lib.decDigits v := digits_of _ l v rfl h
theorem parse_of : ∀ {l : List UInt8} {acc v : Nat}, decN acc l = some v → Lib.parseUint10 acc l = .ok v
  | [], acc, v, h => by simp only [decN, Option.some.injEq] at h; rw [Lib.parseUint10, h]
  | c :: r, acc, v, h => by
    simp only [decN] at h
    split at h
    · rename_i hc
      split at h
      · rename_i hle
        simp only [Lib.parseUint10]
        rw [if_pos hc, if_neg (by omega), if_neg (by omega), show acc * 10 = 10 * acc by omega]
        exact parse_of h
      · simp at h
    · simp at h
theorem atoi_of {l : List UInt8} {v : Nat} (h : numW l = some v) : Lib.atoiAll l = .ok (v : Int) := by
  have hle := numW_le h
  unfold numW at h
  split at h
  · simp at h
  rename_i hno
  cases l with
  | nil => exact absurd (Or.inl rfl) hno
  | cons c r =>
    have hp := parse_of h
    simp only [decN] at h
    split at h
    · rename_i hc
      unfold Lib.atoiAll
      simp only
      rw [if_neg (by omega), Lib.parseMag, if_neg (by simp), hp]
      simp only
      rw [if_neg (by omega), if_neg (by omega), if_neg (by omega)]
    · simp at h
/-- What the program's Number tells is the document's. -/
theorem numW_none {l : List UInt8} (h : numW l = none) {v : Int} (hv : v ≤ 9223372036854775807) (h0 : 0 ≤ v) : Lib.itoa v ≠ l := by
  intro e
  unfold Lib.itoa at e
  rw [if_neg (by omega)] at e
  rw [← e, numW_digits (by omega)] at h
  simp at h
end Go.Proofs.YtdhkdniddjnigaaGreatDoor

/- strconv.Atoi and Itoa at this program: which number is which. -/
namespace Go.Proofs
open Go.Shelf
def Tryz.laysM171_ren : Go.Shelf.Ren := ⟨fun | 171 => 61 | 243 => 100 | 246 => 131 | 283 => 173 | 284 => 174 | 285 => 175 | 286 => 176 | 129 => 201 | 317 => 200 | 318 => 202 | 319 => 203 | 320 => 204 | 337 => 220 | 338 => 221 | n => n, fun | 3 => 3 | 9 => 9 | 2 => 2 | 4 => 4 | 171 => 221 | 0 => 0 | 53 => 222 | 37 => 40 | 5 => 5 | 173 => 225 | 212 => 248 | 51 => 179 | 20 => 20 | 213 => 249 | 46 => 157 | 232 => 269 | 233 => 270 | n => n, fun | 17 => 4 | 18 => 6 | 19 => 7 | n => n⟩
theorem Tryz.laysM171 : Go.Proofs.LaysM.n171 Tryz.prog Tryz.laysM171_ren := {
  mixed := by kernel_rfl
  f129 := Tryz.func201.trans (congrArg some (by kernel_rfl))
  f171 := Tryz.func61.trans (congrArg some (by kernel_rfl))
  f243 := Tryz.func100.trans (congrArg some (by kernel_rfl))
  f246 := Tryz.func131.trans (congrArg some (by kernel_rfl))
  f283 := Tryz.func173.trans (congrArg some (by kernel_rfl))
  f284 := Tryz.func174.trans (congrArg some (by kernel_rfl))
  f285 := Tryz.func175.trans (congrArg some (by kernel_rfl))
  f286 := Tryz.func176.trans (congrArg some (by kernel_rfl))
  f317 := Tryz.func200.trans (congrArg some (by kernel_rfl))
  f318 := Tryz.func202.trans (congrArg some (by kernel_rfl))
  f319 := Tryz.func203.trans (congrArg some (by kernel_rfl))
  f320 := Tryz.func204.trans (congrArg some (by kernel_rfl))
  f337 := Tryz.func220.trans (congrArg some (by kernel_rfl))
  f338 := Tryz.func221.trans (congrArg some (by kernel_rfl))
  t0 := Tryz.underlying0
  a0 := Tryz.isAgg0
  z0 := Tryz.sizeOf0
  v0 := Tryz.zeroValue0
  t2 := Tryz.underlying2
  a2 := Tryz.isAgg2
  z2 := Tryz.sizeOf2
  v2 := Tryz.zeroValue2
  t3 := Tryz.underlying3
  a3 := Tryz.isAgg3
  z3 := Tryz.sizeOf3
  v3 := Tryz.zeroValue3
  t4 := Tryz.underlying4
  a4 := Tryz.isAgg4
  z4 := Tryz.sizeOf4
  v4 := Tryz.zeroValue4
  t5 := Tryz.underlying5
  a5 := Tryz.isAgg5
  z5 := Tryz.sizeOf5
  v5 := Tryz.zeroValue5
  t9 := Tryz.underlying9
  a9 := Tryz.isAgg9
  z9 := Tryz.sizeOf9
  v9 := Tryz.zeroValue9
  t20 := Tryz.underlying20
  a20 := Tryz.isAgg20
  z20 := Tryz.sizeOf20
  v20 := Tryz.zeroValue20
  t37 := Tryz.underlying40
  a37 := Tryz.isAgg40
  z37 := Tryz.sizeOf40
  v37 := Tryz.zeroValue40
  t46 := Tryz.underlying157
  a46 := Tryz.isAgg157
  z46 := Tryz.sizeOf157
  v46 := Tryz.zeroValue157
  t51 := Tryz.underlying179
  a51 := Tryz.isAgg179
  z51 := Tryz.sizeOf179
  v51 := Tryz.zeroValue179
  t53 := Tryz.underlying222
  a53 := Tryz.isAgg222
  z53 := Tryz.sizeOf222
  v53 := Tryz.zeroValue222
  t171 := Tryz.underlying221
  a171 := Tryz.isAgg221
  z171 := Tryz.sizeOf221
  v171 := Tryz.zeroValue221
  t173 := Tryz.underlying225
  a173 := Tryz.isAgg225
  z173 := Tryz.sizeOf225
  v173 := Tryz.zeroValue225
  t212 := Tryz.underlying248
  a212 := Tryz.isAgg248
  z212 := Tryz.sizeOf248
  v212 := Tryz.zeroValue248
  t213 := Tryz.underlying249
  a213 := Tryz.isAgg249
  z213 := Tryz.sizeOf249
  t232 := Tryz.underlying269
  a232 := Tryz.isAgg269
  z232 := Tryz.sizeOf269
  v232 := Tryz.zeroValue269
  t233 := Tryz.underlying270
  a233 := Tryz.isAgg270
  z233 := Tryz.sizeOf270
  v233 := Tryz.zeroValue270
  g17 := by kernel_rfl
  g18 := by kernel_rfl
  g19 := by kernel_rfl
  i0 := by kernel_rfl
  i2 := by kernel_rfl
  i3 := by kernel_rfl
  i4 := by kernel_rfl
  i5 := by kernel_rfl
  i9 := by kernel_rfl
  i20 := by kernel_rfl
  i37 := by kernel_rfl
  i46 := by kernel_rfl
  i51 := by kernel_rfl
  i53 := by kernel_rfl
  i171 := by kernel_rfl
  i173 := by kernel_rfl
  i212 := by kernel_rfl
  i232 := by kernel_rfl
  i233 := by kernel_rfl
  m17 := by kernel_rfl
  m18 := by kernel_rfl
  m19 := by kernel_rfl }
def Tryz.laysC172_ren : Go.Shelf.Ren := ⟨fun | 172 => 192 | 244 => 214 | 245 => 215 | 247 => 223 | 279 => 224 | 280 => 225 | 281 => 226 | 282 => 227 | 287 => 228 | 316 => 229 | 171 => 61 | 205 => 230 | 321 => 231 | 322 => 232 | 243 => 100 | 246 => 131 | 283 => 173 | 284 => 174 | 285 => 175 | 286 => 176 | 129 => 201 | 317 => 200 | 318 => 202 | 319 => 203 | 320 => 204 | 337 => 220 | 338 => 221 | n => n, fun | 9 => 9 | 3 => 3 | 75 => 190 | 76 => 227 | 4 => 4 | 5 => 5 | 167 => 263 | 37 => 40 | 0 => 0 | 85 => 264 | 2 => 2 | 168 => 266 | 53 => 222 | 175 => 271 | 46 => 157 | 210 => 274 | 127 => 230 | 145 => 279 | 143 => 277 | 21 => 21 | 171 => 221 | 173 => 225 | 212 => 248 | 51 => 179 | 20 => 20 | 213 => 249 | 232 => 269 | 233 => 270 | 80 => 193 | n => n, fun | 15 => 8 | 16 => 9 | 17 => 4 | 18 => 6 | 19 => 7 | n => n⟩
theorem Tryz.laysC172 : Go.Proofs.LaysC.n172 Tryz.prog Tryz.laysC172_ren := {
  mixed := by kernel_rfl
  f129 := Tryz.func201.trans (congrArg some (by kernel_rfl))
  f171 := Tryz.func61.trans (congrArg some (by kernel_rfl))
  f172 := Tryz.func192.trans (congrArg some (by kernel_rfl))
  f205 := Tryz.func230.trans (congrArg some (by kernel_rfl))
  f243 := Tryz.func100.trans (congrArg some (by kernel_rfl))
  f244 := Tryz.func214.trans (congrArg some (by kernel_rfl))
  f245 := Tryz.func215.trans (congrArg some (by kernel_rfl))
  f246 := Tryz.func131.trans (congrArg some (by kernel_rfl))
  f247 := Tryz.func223.trans (congrArg some (by kernel_rfl))
  f279 := Tryz.func224.trans (congrArg some (by kernel_rfl))
  f280 := Tryz.func225.trans (congrArg some (by kernel_rfl))
  f281 := Tryz.func226.trans (congrArg some (by kernel_rfl))
  f282 := Tryz.func227.trans (congrArg some (by kernel_rfl))
  f283 := Tryz.func173.trans (congrArg some (by kernel_rfl))
  f284 := Tryz.func174.trans (congrArg some (by kernel_rfl))
  f285 := Tryz.func175.trans (congrArg some (by kernel_rfl))
  f286 := Tryz.func176.trans (congrArg some (by kernel_rfl))
  f287 := Tryz.func228.trans (congrArg some (by kernel_rfl))
  f316 := Tryz.func229.trans (congrArg some (by kernel_rfl))
  f317 := Tryz.func200.trans (congrArg some (by kernel_rfl))
  f318 := Tryz.func202.trans (congrArg some (by kernel_rfl))
  f319 := Tryz.func203.trans (congrArg some (by kernel_rfl))
  f320 := Tryz.func204.trans (congrArg some (by kernel_rfl))
  f321 := Tryz.func231.trans (congrArg some (by kernel_rfl))
  f322 := Tryz.func232.trans (congrArg some (by kernel_rfl))
  f337 := Tryz.func220.trans (congrArg some (by kernel_rfl))
  f338 := Tryz.func221.trans (congrArg some (by kernel_rfl))
  t0 := Tryz.underlying0
  a0 := Tryz.isAgg0
  z0 := Tryz.sizeOf0
  v0 := Tryz.zeroValue0
  t2 := Tryz.underlying2
  a2 := Tryz.isAgg2
  z2 := Tryz.sizeOf2
  v2 := Tryz.zeroValue2
  t3 := Tryz.underlying3
  a3 := Tryz.isAgg3
  z3 := Tryz.sizeOf3
  v3 := Tryz.zeroValue3
  t4 := Tryz.underlying4
  a4 := Tryz.isAgg4
  z4 := Tryz.sizeOf4
  v4 := Tryz.zeroValue4
  t5 := Tryz.underlying5
  a5 := Tryz.isAgg5
  z5 := Tryz.sizeOf5
  v5 := Tryz.zeroValue5
  t9 := Tryz.underlying9
  a9 := Tryz.isAgg9
  z9 := Tryz.sizeOf9
  v9 := Tryz.zeroValue9
  t20 := Tryz.underlying20
  a20 := Tryz.isAgg20
  z20 := Tryz.sizeOf20
  v20 := Tryz.zeroValue20
  t21 := Tryz.underlying21
  a21 := Tryz.isAgg21
  z21 := Tryz.sizeOf21
  v21 := Tryz.zeroValue21
  t37 := Tryz.underlying40
  a37 := Tryz.isAgg40
  z37 := Tryz.sizeOf40
  v37 := Tryz.zeroValue40
  t46 := Tryz.underlying157
  a46 := Tryz.isAgg157
  z46 := Tryz.sizeOf157
  v46 := Tryz.zeroValue157
  t51 := Tryz.underlying179
  a51 := Tryz.isAgg179
  z51 := Tryz.sizeOf179
  v51 := Tryz.zeroValue179
  t53 := Tryz.underlying222
  a53 := Tryz.isAgg222
  z53 := Tryz.sizeOf222
  v53 := Tryz.zeroValue222
  t75 := Tryz.underlying190
  a75 := Tryz.isAgg190
  z75 := Tryz.sizeOf190
  v75 := Tryz.zeroValue190
  t76 := Tryz.underlying227
  a76 := Tryz.isAgg227
  z76 := Tryz.sizeOf227
  v76 := Tryz.zeroValue227
  t85 := Tryz.underlying264
  a85 := Tryz.isAgg264
  z85 := Tryz.sizeOf264
  v85 := Tryz.zeroValue264
  t127 := Tryz.underlying230
  a127 := Tryz.isAgg230
  z127 := Tryz.sizeOf230
  v127 := Tryz.zeroValue230
  t143 := Tryz.underlying277
  a143 := Tryz.isAgg277
  z143 := Tryz.sizeOf277
  v143 := Tryz.zeroValue277
  t145 := Tryz.underlying279
  a145 := Tryz.isAgg279
  z145 := Tryz.sizeOf279
  v145 := Tryz.zeroValue279
  t167 := Tryz.underlying263
  a167 := Tryz.isAgg263
  z167 := Tryz.sizeOf263
  v167 := Tryz.zeroValue263
  t168 := Tryz.underlying266
  a168 := Tryz.isAgg266
  z168 := Tryz.sizeOf266
  v168 := Tryz.zeroValue266
  t171 := Tryz.underlying221
  a171 := Tryz.isAgg221
  z171 := Tryz.sizeOf221
  v171 := Tryz.zeroValue221
  t173 := Tryz.underlying225
  a173 := Tryz.isAgg225
  z173 := Tryz.sizeOf225
  v173 := Tryz.zeroValue225
  t175 := Tryz.underlying271
  a175 := Tryz.isAgg271
  z175 := Tryz.sizeOf271
  v175 := Tryz.zeroValue271
  t210 := Tryz.underlying274
  a210 := Tryz.isAgg274
  z210 := Tryz.sizeOf274
  v210 := Tryz.zeroValue274
  t212 := Tryz.underlying248
  a212 := Tryz.isAgg248
  z212 := Tryz.sizeOf248
  v212 := Tryz.zeroValue248
  t213 := Tryz.underlying249
  a213 := Tryz.isAgg249
  z213 := Tryz.sizeOf249
  t232 := Tryz.underlying269
  a232 := Tryz.isAgg269
  z232 := Tryz.sizeOf269
  v232 := Tryz.zeroValue269
  t233 := Tryz.underlying270
  a233 := Tryz.isAgg270
  z233 := Tryz.sizeOf270
  v233 := Tryz.zeroValue270
  g15 := by kernel_rfl
  g16 := by kernel_rfl
  g17 := by kernel_rfl
  g18 := by kernel_rfl
  g19 := by kernel_rfl
  t80 := Tryz.underlying193
  a80 := Tryz.isAgg193
  z80 := Tryz.sizeOf193
  v80 := Tryz.zeroValue193
  i0 := by kernel_rfl
  i2 := by kernel_rfl
  i3 := by kernel_rfl
  i4 := by kernel_rfl
  i5 := by kernel_rfl
  i9 := by kernel_rfl
  i20 := by kernel_rfl
  i21 := by kernel_rfl
  i37 := by kernel_rfl
  i46 := by kernel_rfl
  i51 := by kernel_rfl
  i53 := by kernel_rfl
  i75 := by kernel_rfl
  i76 := by kernel_rfl
  i80 := by kernel_rfl
  i85 := by kernel_rfl
  i127 := by kernel_rfl
  i143 := by kernel_rfl
  i145 := by kernel_rfl
  i167 := by kernel_rfl
  i168 := by kernel_rfl
  i171 := by kernel_rfl
  i173 := by kernel_rfl
  i175 := by kernel_rfl
  i210 := by kernel_rfl
  i212 := by kernel_rfl
  i232 := by kernel_rfl
  i233 := by kernel_rfl
  m15 := by kernel_rfl
  m16 := by kernel_rfl
  m17 := by kernel_rfl
  m18 := by kernel_rfl
  m19 := by kernel_rfl
  c0 := by kernel_rfl
  c2 := by kernel_rfl
  c3 := by kernel_rfl
  c4 := by kernel_rfl
  c5 := by kernel_rfl
  c9 := by kernel_rfl
  c20 := by kernel_rfl
  c21 := by kernel_rfl
  c37 := by kernel_rfl
  c46 := by kernel_rfl
  c51 := by kernel_rfl
  c53 := by kernel_rfl
  c75 := by kernel_rfl
  c76 := by kernel_rfl
  c80 := by kernel_rfl
  c85 := by kernel_rfl
  c127 := by kernel_rfl
  c143 := by kernel_rfl
  c145 := by kernel_rfl
  c167 := by kernel_rfl
  c168 := by kernel_rfl
  c171 := by kernel_rfl
  c173 := by kernel_rfl
  c175 := by kernel_rfl
  c210 := by kernel_rfl
  c212 := by kernel_rfl
  c213 := by kernel_rfl
  c232 := by kernel_rfl
  c233 := by kernel_rfl }
end Go.Proofs

namespace Go.Proofs.YtdhkdniddjnigaaGreatDoor
open Go.RowKit
set_option linter.unusedVariables false

/-- What the library's variables hold. -/
structure Vars (w : World) : Prop where
  es : ∃ tp p, w.var? Tryz.prog "strconv.ErrSyntax" = some #[.iface tp p]
  er : ∃ tp p, w.var? Tryz.prog "strconv.ErrRange" = some #[.iface tp p]
  pw : Lib.TabIs Tryz.prog w "internal/strconv.uint64pow10" .u64 Lib.pow10Tab
theorem var_later {w w' : World} (hb : Below w.heap.size w w') {n : String} {cs : Array Value} (h : w.var? Tryz.prog n = some cs) : w'.var? Tryz.prog n = some cs := by
  unfold World.var? at h ⊢
  cases hg : Tryz.prog.globalNamed n with
  | none => rw [hg] at h; simp at h
  | some g =>
    rw [hg] at h
    simp only [Option.bind_some] at h ⊢
    by_cases hlt : g < w.heap.size
    · rw [hb.block g hlt]; exact h
    · rw [Array.getElem?_eq_none (by omega)] at h; simp at h
theorem Vars.later {w w' : World} (h : Vars w) (hb : Below w.heap.size w w') : Vars w' := by
  obtain ⟨⟨t1, p1, h1⟩, ⟨t2, p2, h2⟩, h3⟩ := h
  exact ⟨⟨t1, p1, var_later hb h1⟩, ⟨t2, p2, var_later hb h2⟩, var_later hb h3⟩

theorem grow_bel (w : World) (k : Nat) (os : Array Obj) : Below w.heap.size w (Sort.grow (w.drewN k) os) := by
  refine ⟨rfl, rfl, rfl, by simp [Sort.grow], fun j hj => ?_⟩
  show (w.heap ++ os)[j]? = _
  rw [Array.getElem?_append_left hj]

theorem Itoa_any {v : Int} {w : World} (V : Vars w) (h0 : 0 ≤ v) (h1 : v ≤ 9223372036854775807) : Calls Tryz.prog 61 #[.int .i64 v] w fun e w' => e = .returned (.string ⟨(Lib.itoa v).toArray⟩) ∧ Below w.heap.size w w' := by
  refine Calls.mono (Any.strconv_Itoa Tryz.laysM171 v (by omega) h1 w V.pw) ?_
  rintro e w' ⟨he, k, os, rfl⟩
  exact ⟨he, grow_bel w k os⟩
theorem Atoi_ok {l : List UInt8} {v : Int} {w : World} (hl : l.length ≤ 140737488355328) (h : Lib.atoiAll l = .ok v) : Calls Tryz.prog 192 #[.string ⟨l.toArray⟩] w fun e w' => e = .returned (.tuple #[.int .i64 v, .nilIface]) ∧ Below w.heap.size w w' := by
  have hz : (⟨l.toArray⟩ : ByteArray).size = l.length := by simp [ByteArray.size]
  refine Calls.mono (Any.strconv_Atoi_ok Tryz.laysC172 ⟨l.toArray⟩ (by rw [hz]; omega) v (by simpa using h) w) ?_
  rintro e w' ⟨he, rfl | ⟨t, rfl⟩⟩
  · exact ⟨he, Below.refl _ _⟩
  · exact ⟨he, Lib.bytesWorld_below _ _ _⟩
theorem Atoi_bad {l : List UInt8} {w : World} (V : Vars w) (hl : l.length ≤ 140737488355328) (h : ∀ v, Lib.atoiAll l ≠ .ok v) : Calls Tryz.prog 192 #[.string ⟨l.toArray⟩] w fun e w' => ∃ z t N, e = .returned (.tuple #[.int .i64 z, .iface t (.pointer (some ⟨N, 0, none⟩))]) ∧ Below w.heap.size w w' := by
  have hz : (⟨l.toArray⟩ : ByteArray).size = l.length := by simp [ByteArray.size]
  cases hA : Lib.atoiAll l with
  | ok v => exact absurd hA (h v)
  | «syntax» =>
    obtain ⟨tp, p, hv⟩ := V.es
    refine Calls.mono (Any.strconv_Atoi_syntax_var Tryz.laysC172 ⟨l.toArray⟩ (by rw [hz]; omega) (by simpa using hA) tp p w hv) ?_
    rintro e w' ⟨N, he, _, _, hb⟩
    exact ⟨_, _, N, he, hb⟩
  | range =>
    obtain ⟨tp, p, hv⟩ := V.er
    refine Calls.mono (Any.strconv_Atoi_range_var Tryz.laysC172 ⟨l.toArray⟩ (by rw [hz]; omega) (by simpa using hA) tp p w hv) ?_
    rintro e w' ⟨N, he, _, _, hb⟩
    exact ⟨_, _, N, he, hb⟩

/-- What Number answers. -/
def numA (l : List UInt8) : Value := .tuple #[.int .i64 (((numW l).getD 0 : Nat) : Int), .bool (numW l).isSome]

set_option maxHeartbeats 1000000 in
set_option maxRecDepth 1000000 in
theorem Number_any {l : List UInt8} {w : World} (V : Vars w) (hl : l.length ≤ 140737488355328) :
    Calls Tryz.prog 164 #[.string ⟨l.toArray⟩] w fun e w' => e = .returned (numA l) ∧ Below w.heap.size w w' := by
  cases hN : numW l with
  | some v =>
    have e1 : numA l = .tuple #[.int .i64 (v : Int), .bool true] := by unfold numA; rw [hN]; rfl
    rw [e1]
    have hle := numW_le hN
    have C := hid (Atoi_ok (w := w) hl (atoi_of hN))
    have IT : Hid (∀ W, Below w.heap.size w W → Calls Tryz.prog 61 #[.int .i64 (v : Int)] W fun e w' => e = .returned (.string ⟨l.toArray⟩) ∧ Below W.heap.size W w') := hid (fun W hb => by
      have := Itoa_any (v := (v : Int)) (V.later hb) (by omega) (by omega)
      have e2 : Lib.itoa (v : Int) = l := by
        unfold Lib.itoa
        rw [if_neg (by omega), Int.toNat_natCast]
        exact (numW_spelt hN).symm
      rw [e2] at this
      exact this)
    have ne : ((⟨l.toArray⟩ : ByteArray).toList != (⟨l.toArray⟩ : ByteArray).toList) = false := by simp
    have hv0 : ¬ (v : Int) < 0 := by omega
    clear e1 hN V hl
    generalize ByteArray.mk l.toArray = L at *
    go_enter Tryz.func164, Tryz.ntmps164
    go_wp2_with (go_at_call 192; refine C.out.mono ?_; rintro e w1 ⟨rfl, B1⟩; have Q := hid (IT.out w1 B1); have BB := hid B1; clear B1; refine Hid.out ?_)
    refine hid ?_
    go_wp2_with (go_at_call 61; refine Q.out.mono ?_; rintro e w2 ⟨rfl, B2⟩; have B3 := hid (BB.out.trans (B2.mono BB.out.size)); clear B2)
    go_ret2
    exact ⟨rfl, B3.out⟩
  | none =>
    have e1 : numA l = .tuple #[.int .i64 0, .bool false] := by unfold numA; rw [hN]; rfl
    rw [e1]
    by_cases hA : ∃ v, Lib.atoiAll l = .ok v
    · obtain ⟨v, hA⟩ := hA
      have hb := Lib.atoiAll_bounds hA
      have C := hid (Atoi_ok (w := w) hl hA)
      by_cases hv0 : v < 0
      · clear hb e1 hN V hl hA
        generalize ByteArray.mk l.toArray = L at *
        go_enter Tryz.func164, Tryz.ntmps164
        go_wp2_with (go_at_call 192; refine C.out.mono ?_; rintro e w1 ⟨rfl, B1⟩; have BB := hid B1; clear B1)
        go_ret2
        exact ⟨rfl, BB.out⟩
      · have hno := numW_none hN hb.2 (by omega)
        have IT : Hid (∀ W, Below w.heap.size w W → Calls Tryz.prog 61 #[.int .i64 v] W fun e w' => e = .returned (.string ⟨(Lib.itoa v).toArray⟩) ∧ Below W.heap.size W w') := hid (fun W hw => Itoa_any (V.later hw) (by omega) hb.2)
        have ne : ((⟨(Lib.itoa v).toArray⟩ : ByteArray).toList == (⟨l.toArray⟩ : ByteArray).toList) = false := by
          rw [ba_ne]; exact decide_eq_false hno
        clear hb e1 hN V hl hA hno
        generalize ByteArray.mk (Lib.itoa v).toArray = M at *
        generalize ByteArray.mk l.toArray = L at *
        have ne' : (M.toList != L.toList) = true := by simp only [bne, ne]; rfl
        go_enter Tryz.func164, Tryz.ntmps164
        go_wp2_with (go_at_call 192; refine C.out.mono ?_; rintro e w1 ⟨rfl, B1⟩; have Q := hid (IT.out w1 B1); have BB := hid B1; clear B1; refine Hid.out ?_)
        refine hid ?_
        go_wp2_with (go_at_call 61; refine Q.out.mono ?_; rintro e w2 ⟨rfl, B2⟩; have B3 := hid (BB.out.trans (B2.mono BB.out.size)); clear B2)
        go_ret2
        exact ⟨rfl, B3.out⟩
    · have C := hid (Atoi_bad V hl (fun v e => hA ⟨v, e⟩))
      clear e1 hN V hl hA
      generalize ByteArray.mk l.toArray = L at *
      go_enter Tryz.func164, Tryz.ntmps164
      go_wp2_with (go_at_call 192; refine C.out.mono ?_; rintro e w1 ⟨z, t, N, rfl, B1⟩; have BB := hid B1; clear B1)
      go_ret2
      exact ⟨rfl, BB.out⟩
end Go.Proofs.YtdhkdniddjnigaaGreatDoor

namespace Go.Proofs.YtdhkdniddjnigaaGreatDoor
open Go.RowKit
set_option linter.unusedVariables false

theorem reads_one {w : World} (b : UInt8) : Reads (w.alloc (.cells #[.int .u8 (b.toNat : Int)] 5)) (.slice (some ⟨w.heap.size, 0, none⟩) 1 1) [b] := by
  refine ⟨some ⟨w.heap.size, 0, none⟩, 1, rfl, by simp, Or.inr ⟨w.heap.size, 0, rfl, by simp, fun j u hu => ?_⟩⟩
  match j with
  | 0 =>
    simp only [cellsB, List.map_cons, List.map_nil, List.getElem?_cons_zero, Option.some.injEq] at hu
    subst hu
    rw [cell_at (heap_alloc_new w _)]; rfl
  | j + 1 => simp [cellsB] at hu
theorem conv_one {w : World} (b : UInt8) : (convert 40 9 (.slice (some ⟨w.heap.size, 0, none⟩) 1 1)).run Tryz.prog (w.alloc (.cells #[.int .u8 (b.toNat : Int)] 5)) = .ok (.string ⟨#[b]⟩) (w.alloc (.cells #[.int .u8 (b.toNat : Int)] 5)) := by
  exact conv_string (reads_one b)

theorem conv_kept {w w' : World} {b : UInt8} (hb : Below (w.alloc (.cells #[.int .u8 (b.toNat : Int)] 5)).heap.size (w.alloc (.cells #[.int .u8 (b.toNat : Int)] 5)) w') : (convert 40 9 (.slice (some ⟨w.heap.size, 0, none⟩) 1 1)).run Tryz.prog w' = .ok (.string ⟨#[b]⟩) w' := by
  have : Reads (w.alloc (.cells #[.int .u8 (b.toNat : Int)] 5)) (.slice (some ⟨w.heap.size, 0, none⟩) 1 1) [b] := reads_one b
  exact conv_string (this.below hb)

set_option maxHeartbeats 1600000 in
set_option maxRecDepth 1000000 in
theorem Digits_any : ∀ (n : Nat) (w : World), n ≤ 9223372036854775807 → Calls Tryz.prog 44 #[.int .i64 (n : Int)] w fun e w' => e = .returned (.string ⟨(Lib.decDigits n).toArray⟩) ∧ Below w.heap.size w w' := by
  intro n
  induction n using Nat.strongRecOn with
  | _ n ih =>
    intro w hn
    by_cases h10 : n < 10
    · have e1 : Lib.decDigits n = [UInt8.ofNat (48 + n)] := by rw [Lib.decDigits, dif_pos h10]
      rw [e1]
      have cv := conv_one (w := w) (UInt8.ofNat (48 + n))
      rw [toNat_dig h10, show ((48 + n : Nat) : Int) = 48 + (n : Int) from by omega] at cv
      have h10' : (n : Int) < 10 := by omega
      have hw : IntKind.u8.wrap (48 + (n : Int)) = 48 + n := by
        have : ∀ x : Fin 10, IntKind.u8.wrap (48 + (x.val : Int)) = 48 + x.val := by decide +kernel
        exact this ⟨n, h10⟩
      have bel := hid (ba w (.cells #[.int .u8 (48 + (n : Int))] 5))
      clear ih e1
      generalize ByteArray.mk #[UInt8.ofNat (48 + n)] = X at *
      go_enter Tryz.func44, Tryz.ntmps44
      go_wp2
      go_ret
      exact ⟨rfl, bel.out⟩
    · have e1 : Lib.decDigits n = Lib.decDigits (n / 10) ++ [UInt8.ofNat (48 + n % 10)] := by rw [Lib.decDigits, dif_neg h10]
      rw [e1]
      have C := hid (fun W => ih (n / 10) (by omega) W (by omega))
      have hm : n % 10 < 10 := by omega
      have hrem : (n : Int) % 10 = ((n % 10 : Nat) : Int) := by omega
      have htm : (n : Int).tmod 10 = ((n % 10 : Nat) : Int) := by rw [Int.tmod_eq_emod_of_nonneg (by omega)]; omega
      have hdiv : (n : Int) / 10 = ((n / 10 : Nat) : Int) := by omega
      have h10' : ¬ (n : Int) < 10 := by omega
      have eX : Hid (∀ a b : List UInt8, (⟨(a ++ b).toArray⟩ : ByteArray) = ⟨a.toArray⟩ ++ ⟨b.toArray⟩) := hid (fun a b => by
        apply ByteArray.ext
        simp)
      have hqn : n / 10 ≤ n := by omega
      clear ih e1
      generalize n % 10 = r at *
      generalize n / 10 = q at *
      rw [eX.out]
      have cv := fun W : World => conv_one (w := W) (UInt8.ofNat (48 + r))
      have hk : Hid (∀ W W' : World, Below (W.alloc (.cells #[.int .u8 ((UInt8.ofNat (48 + r)).toNat : Int)] 5)).heap.size (W.alloc (.cells #[.int .u8 ((UInt8.ofNat (48 + r)).toNat : Int)] 5)) W' → (convert 40 9 (.slice (some ⟨W.heap.size, 0, none⟩) 1 1)).run Tryz.prog W' = .ok (.string ⟨#[UInt8.ofNat (48 + r)]⟩) W') := hid (fun W W' hb => conv_kept hb)
      rw [toNat_dig hm, show ((48 + r : Nat) : Int) = 48 + (r : Int) from by omega] at cv hk
      have hw : IntKind.u8.wrap (48 + (r : Int)) = 48 + (r : Int) := by
        have : ∀ x : Fin 10, IntKind.u8.wrap (48 + (x.val : Int)) = 48 + x.val := by decide +kernel
        exact this ⟨r, hm⟩
      have wq : IntKind.i64.wrap (q : Int) = q := by rw [IntKind.wrap_i64]; omega
      have wr1 : IntKind.i64.wrap (r : Int) = r := by rw [IntKind.wrap_i64]; omega
      have wr2 : IntKind.i64.wrap (48 + (r : Int)) = 48 + (r : Int) := by rw [IntKind.wrap_i64]; omega
      have e3 : (⟨[UInt8.ofNat (48 + r)].toArray⟩ : ByteArray) = ⟨#[UInt8.ofNat (48 + r)]⟩ := rfl
      rw [e3]
      have hsum : ¬ 9223372036854775807 < (⟨(Lib.decDigits q).toArray⟩ : ByteArray).size + (⟨#[UInt8.ofNat (48 + r)]⟩ : ByteArray).size := by
        have := digits_short (v := q) (by omega)
        simp [ByteArray.size]
        omega
      generalize ByteArray.mk #[UInt8.ofNat (48 + r)] = X at *
      generalize ByteArray.mk (Lib.decDigits q).toArray = Y at *
      clear eX e3
      have bel := hid (fun W : World => ba W (.cells #[.int .u8 (48 + (r : Int))] 5))
      have hk2 : Hid (∀ W' : World, Below (w.alloc (.cells #[.int .u8 (48 + (r : Int))] 5)).drew.heap.size (w.alloc (.cells #[.int .u8 (48 + (r : Int))] 5)).drew W' → (convert 40 9 (.slice (some ⟨w.heap.size, 0, none⟩) 1 1)).run Tryz.prog W' = .ok (.string X) W') := hid (fun W' hb => hk.out w.drew W' hb)
      have cvw : (convert 40 9 (.slice (some ⟨w.heap.size, 0, none⟩) 1 1)).run Tryz.prog (w.alloc (.cells #[.int .u8 (48 + (r : Int))] 5)).drew = .ok (.string X) (w.alloc (.cells #[.int .u8 (48 + (r : Int))] 5)).drew := cv w.drew
      have b0 := hid (bd w)
      go_enter Tryz.func44, Tryz.ntmps44
      go_wp2_with fail
      go_region_law (go_simp; go_at_call 44; refine (C.out _).mono ?_; rintro e w5 ⟨rfl, B5⟩; (try have cv2 := hk2.out _ B5); have BB := hid B5; clear B5)
      all_goals (go_wp2; go_ret; refine ⟨rfl, ?_⟩; first | exact b0.out.trans (BB.out.trans ((bel.out _).mono BB.out.size)) | exact b0.out.trans ((bel.out w.drew).trans (BB.out.mono (bel.out w.drew).size)))
end Go.Proofs.YtdhkdniddjnigaaGreatDoor

namespace Go.Proofs.YtdhkdniddjnigaaGreatDoor
open Go.RowKit
set_option linter.unusedVariables false

abbrev rdV (st : Int) (wv dv : Value) (op es cd : Int) : List Value := [.int .i64 st, wv, dv, .int .i64 op, .int .i64 es, .int .u8 cd]
/-- A reader's parts. -/
abbrev rdL (B : Nat) (st : Int) (wv dv : Value) (op es cd : Int) (ws : Ws) (wd : List UInt8) : List Comp := [blkC B (rdV st wv dv op es cd) 209, ownC 9 wv (txW ws), ownC 5 dv (cellsB wd)]

theorem rd_cells {B : Nat} {st : Int} {wv dv : Value} {op es cd : Int} {cs : List Comp} {w : World} (h : All (blkC B (rdV st wv dv op es cd) 209 :: cs) w) :
    (w.cell? ⟨B, 0, none⟩ = some (.int .i64 st) ∧ w.cell? ⟨B, 1, none⟩ = some wv ∧ w.cell? ⟨B, 2, none⟩ = some dv ∧ w.cell? ⟨B, 3, none⟩ = some (.int .i64 op) ∧ w.cell? ⟨B, 4, none⟩ = some (.int .i64 es) ∧ w.cell? ⟨B, 5, none⟩ = some (.int .u8 cd)) ∧ ∀ j, w.frozen? ⟨B, j, none⟩ = false := by
  have hb := h.1.2.1
  exact ⟨⟨by rw [cell_at hb]; rfl, by rw [cell_at hb]; rfl, by rw [cell_at hb]; rfl, by rw [cell_at hb]; rfl, by rw [cell_at hb]; rfl, by rw [cell_at hb]; rfl⟩, fun j => free_at hb j⟩

set_option maxRecDepth 1000000 in
theorem begin_any {B : Nat} {st s : Int} {wv dv : Value} {op es cd : Int} {ws : Ws} {wd : List UInt8} {cs : List Comp} {w : World} (h : All (rdL B st wv dv op es cd ws wd ++ cs) w) :
    Calls Tryz.prog 157 #[ptr B, .int .i64 s] w fun e w' => e = .returned (.tuple #[]) ∧ All (rdL B s wv (.slice none 0 0) op es cd ws [] ++ cs) w' := by
  obtain ⟨⟨s0, s1, s2, s3, s4, s5⟩, hf⟩ := rd_cells h
  have f0 := hf 0
  have f2 := hf 2
  have A1 := (h.setBlk 2 (.slice none 0 0)).setBlk 0 (.int .i64 s)
  have A2 : Hid (All (rdL B s wv (.slice none 0 0) op es cd ws [] ++ cs) ((w.setCell ⟨B, 2, none⟩ (.slice none 0 0)).setCell ⟨B, 0, none⟩ (.int .i64 s))) := by
    have A3 : All (blkC B (rdV s wv (.slice none 0 0) op es cd) 209 :: ownC 9 wv (txW ws) :: cs) ((w.setCell ⟨B, 2, none⟩ (.slice none 0 0)).setCell ⟨B, 0, none⟩ (.int .i64 s)) := by
      have := A1.perm (ds := ownC 5 dv (cellsB wd) :: blkC B (rdV s wv (.slice none 0 0) op es cd) 209 :: ownC 9 wv (txW ws) :: cs) (by
        refine List.Perm.trans ?_ (List.perm_middle (l₁ := [blkC B (rdV s wv (.slice none 0 0) op es cd) 209, ownC 9 wv (txW ws)]))
        exact List.Perm.refl _)
      exact this.tail
    have := (All.addNil (e := 5) A3).perm (ds := rdL B s wv (.slice none 0 0) op es cd ws [] ++ cs) (by
      refine List.Perm.symm (List.Perm.trans ?_ (List.perm_middle (l₁ := [blkC B (rdV s wv (.slice none 0 0) op es cd) 209, ownC 9 wv (txW ws)])))
      exact List.Perm.refl _)
    exact this
  clear A1 h hf
  go_enter Tryz.func157, Tryz.ntmps157
  go_wp2
  go_end0
  exact ⟨rfl, A2.out⟩

theorem perm3a {α : Type} (a b c : α) (cs : List α) : (a :: b :: c :: cs).Perm (c :: a :: b :: cs) := by
  refine List.Perm.trans ?_ (List.perm_middle (l₁ := [a, b]) (a := c) (l₂ := cs))
  exact List.Perm.refl _

set_option maxHeartbeats 800000 in
set_option maxRecDepth 1000000 in
theorem take_any {B : Nat} {st : Int} {wv dv : Value} {op es cd : Int} {ws : Ws} {wd : List UInt8} {b : UInt8} {cs : List Comp} {w : World} (h : All (rdL B st wv dv op es cd ws wd ++ cs) w) (hl : wd.length + 1 ≤ 140737488355328) :
    Calls Tryz.prog 208 #[ptr B, .int .u8 (b.toNat : Int)] w fun e w' => e = .returned (.tuple #[]) ∧ ∃ dv', All (rdL B 3 wv dv' op es cd ws (wd ++ [b]) ++ cs) w' := by
  obtain ⟨⟨s0, s1, s2, s3, s4, s5⟩, hf⟩ := rd_cells h
  obtain ⟨ao0, c0, rfl⟩ := owns_form (h.tail.tail.1.2.1 : w.ownsRow 0 5 1 dv _ _)
  have hBw : B < w.heap.size := (h.1.2.2 B (by simp [blkC]))
  obtain ⟨ao, c, w1, hr, A1⟩ := app_byte (h.perm (perm3a _ _ _ _)) b hl
  have hb1 := A1.tail.1.2.1
  obtain ⟨⟨t0, t1, t2, t3, t4, t5⟩, hf1⟩ := rd_cells A1.tail
  have f0 := hf1 0
  have f2 := hf1 2
  have A2 := hid (((A1.perm (perm3a _ _ _ _).symm).setBlk 2 (.slice ao (wd.length + 1) c)).setBlk 0 (.int .i64 3))
  rw [cellsB_length] at *
  have R := hid hr
  clear hr A1 h hf1 hb1 hf
  generalize hn : wd.length = n at *
  clear hn
  generalize (b.toNat : Int) = bi at *
  go_enter Tryz.func208, Tryz.ntmps208
  go_wp2_with (at_builtin; refine wpList_append_run rfl _ _ 40 rfl _ _ _ _ rfl rfl R.out ?_)
  go_end0
  exact ⟨rfl, _, A2.out⟩
end Go.Proofs.YtdhkdniddjnigaaGreatDoor

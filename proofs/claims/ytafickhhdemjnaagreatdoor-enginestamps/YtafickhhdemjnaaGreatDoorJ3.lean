import Derived.Test.YtafickhhdemjnaaGreatDoorJ2
import Derived.Test.YtafickhhdemjnaaGreatDoorRows
import Derived.WalkKit
import Derived.WalkSpells
import Derived.WalkLawsBesides
import Derived.Maps.AppendAt
import Derived.Laws.AppendOwnNone
import Derived.Laws.BitsAllLaws
import Derived.Deep.Draws
import Derived.ArgAppend
import Derived.Deep.RegionLaw
import Derived.Deep.RegionWith
import Derived.Deep.DrawnRows
import Derived.Deep.AppendLies
import Derived.WalkMore
import Derived.Deep.LoopGhost
namespace Go.Proofs.YtafickhhdemjnaaGreatDoor
open Go.RowKit
set_option linter.unusedVariables false

theorem xgroup_cell (m : Nat) : [Value.int .u8 ((m : Int) % 128 + 128)] = cellsB [UInt8.ofNat (m % 128 + 128)] := by
  simp only [cellsB, List.map_cons, List.map_nil, UInt8.toNat_ofNat']
  congr 2
  omega

theorem xlow_cell (m : Nat) (h : m < 128) : [Value.int .u8 (m : Int)] = cellsB [UInt8.ofNat m] := by
  simp only [cellsB, List.map_cons, List.map_nil, UInt8.toNat_ofNat']
  congr 2
  omega

/-- A byte more on a list that was made here. -/
theorem made_grow {w0 w w1 : World} {o : Obj} {v : Value} {n : Nat} {xs : List Value} (hb : Below w0.heap.size w0 w) (h : w.ownsRow w0.heap.size 5 1 v n xs) (hg : (w.alloc o).grownBy w1 v.ownBlock) : Below w0.heap.size w0 w1 :=
  (hb.alloc hb.size _).grown hg (by have := hb.size; simp; omega) (fun k hk => (World.ownsRow.lt h k hk).1)

theorem xfold_neg (n : Int) (h0 : n < 0) : (-(n + 1)) * 2 + 1 = (foldN n : Int) := by
  unfold foldN; rw [if_pos h0]; omega

end Go.Proofs.YtafickhhdemjnaaGreatDoor

namespace Go.Proofs.YtafickhhdemjnaaGreatDoor
open Go.RowKit
set_option linter.unusedVariables false

theorem owns_zero {w : World} {base : Nat} {e : TypeId} {size : Nat} {v : Value} {n : Nat} {xs : List Value} (h : w.ownsRow base e size v n xs) : w.ownsRow 0 e size v n xs := by
  refine ⟨h.1, ?_⟩
  rcases h.2 with hn | ⟨g, cap, cur, rfl, hg, rest⟩
  · exact Or.inl hn
  · exact Or.inr ⟨g, cap, cur, rfl, by omega, rest⟩

/-- Of what was there nothing has turned but the blocks of a list. -/
structure Fr (F : List Nat) (w w' : World) : Prop where
  os : w'.os = w.os
  tape : w'.tape = w.tape
  output : w'.output = w.output
  size : w.heap.size ≤ w'.heap.size
  block : ∀ k, k < w.heap.size → k ∉ F → w'.heap[k]? = w.heap[k]?

theorem Fr.refl (F : List Nat) (w : World) : Fr F w w := ⟨rfl, rfl, rfl, Nat.le_refl _, fun _ _ _ => rfl⟩

/-- New blocks, or old ones of a list. -/
def Gr (F F' : List Nat) (n : Nat) : Prop := ∀ k ∈ F', k ∈ F ∨ n ≤ k

theorem Fr.mono {F G : List Nat} {w w' : World} (h : Fr F w w') (hs : ∀ k ∈ F, k ∈ G) : Fr G w w' := ⟨h.os, h.tape, h.output, h.size, fun k hk hG => h.block k hk (fun hF => hG (hs k hF))⟩
theorem Fr.trans {F G : List Nat} {w w1 w2 : World} (h : Fr F w w1) (k : Fr G w1 w2) (hg : Gr F G w.heap.size) : Fr F w w2 :=
  ⟨k.os.trans h.os, k.tape.trans h.tape, k.output.trans h.output, Nat.le_trans h.size k.size, fun i hi hF => by
    rw [k.block i (Nat.lt_of_lt_of_le hi h.size) (fun hG => ?_), h.block i hi hF]
    rcases hg i hG with e | e
    · exact hF e
    · omega⟩
theorem Fr.below {F : List Nat} {w w' : World} (h : Below w.heap.size w w') : Fr F w w' := ⟨h.os, h.tape, h.output, h.size, fun k hk _ => h.block k hk⟩
theorem Fr.toBelow {w w' : World} (h : Fr [] w w') : Below w.heap.size w w' := ⟨h.os, h.tape, h.output, h.size, fun k hk => h.block k hk (by simp)⟩
theorem Fr.setCell (w : World) (b j : Nat) (u : Value) : Fr [b] w (w.setCell ⟨b, j, none⟩ u) :=
  ⟨rfl, rfl, rfl, by simp [World.setCell], fun k _ hb => Below.heap_setCell _ _ _ _ (by simpa using hb)⟩
theorem Gr.refl (F : List Nat) (n : Nat) : Gr F F n := fun k hk => Or.inl hk

/-- A part of the memory that is known. -/
structure Comp where
  holds : World → Prop
  fp : List Nat

/-- A later world, as far as it is not memory. -/
structure Later (w w' : World) : Prop where
  os : w'.os = w.os
  tape : w'.tape = w.tape
  output : w'.output = w.output
  size : w.heap.size ≤ w'.heap.size

/-- It hangs on its own blocks alone. -/
def Comp.Good (c : Comp) : Prop := ∀ w w', c.holds w → Later w w' → (∀ k ∈ c.fp, w'.heap[k]? = w.heap[k]?) → c.holds w'

def Disj (F G : List Nat) : Prop := ∀ k ∈ F, k ∉ G
theorem Disj.symm {F G : List Nat} (h : Disj F G) : Disj G F := fun k hk hF => h k hF hk

/-- Parts that have nothing in common. -/
def All : List Comp → World → Prop
  | [], _ => True
  | c :: cs, w => (c.Good ∧ c.holds w ∧ ∀ k ∈ c.fp, k < w.heap.size) ∧ (∀ d ∈ cs, Disj c.fp d.fp) ∧ All cs w

theorem All.mem {cs : List Comp} {w : World} (h : All cs w) {c : Comp} (hc : c ∈ cs) : c.Good ∧ c.holds w ∧ ∀ k ∈ c.fp, k < w.heap.size := by
  induction cs with
  | nil => cases hc
  | cons d cs ih =>
    rcases List.mem_cons.1 hc with rfl | hc
    · exact h.1
    · exact ih h.2.2 hc

/-- Parts that were not touched. -/
theorem All.kept {cs : List Comp} {w w' : World} {F : List Nat} (h : All cs w) (hf : Fr F w w') (hd : ∀ d ∈ cs, Disj F d.fp) : All cs w' := by
  induction cs with
  | nil => exact trivial
  | cons c cs ih =>
    obtain ⟨⟨hg, hh, hlt⟩, hdj, hr⟩ := h
    refine ⟨⟨hg, hg w w' hh ⟨hf.os, hf.tape, hf.output, hf.size⟩ (fun k hk => hf.block k (hlt k hk) (fun hF => hd c (by simp) k hF hk)), fun k hk => Nat.lt_of_lt_of_le (hlt k hk) hf.size⟩, hdj, ih hr (fun d hd' => hd d (by simp [hd']))⟩

/-- The first part is turned. -/
theorem All.turn {c c' : Comp} {cs : List Comp} {w w' : World} (h : All (c :: cs) w) (hf : Fr c.fp w w') (hg : c'.Good) (hh : c'.holds w') (hgr : Gr c.fp c'.fp w.heap.size) (hlt : ∀ k ∈ c'.fp, k < w'.heap.size) : All (c' :: cs) w' := by
  refine ⟨⟨hg, hh, hlt⟩, fun d hd k hk hkd => ?_, h.2.2.kept hf h.2.1⟩
  rcases hgr k hk with e | e
  · exact h.2.1 d hd k e hkd
  · have := (h.2.2.mem hd).2.2 k hkd; omega

/-- A new part. -/
theorem All.add {c : Comp} {cs : List Comp} {w w' : World} (h : All cs w) (hf : Fr [] w w') (hg : c.Good) (hh : c.holds w') (hnew : ∀ k ∈ c.fp, w.heap.size ≤ k ∧ k < w'.heap.size) : All (c :: cs) w' := by
  refine ⟨⟨hg, hh, fun k hk => (hnew k hk).2⟩, fun d hd k hk hkd => ?_, h.kept hf (fun d _ k hk => by cases hk)⟩
  have := (h.mem hd).2.2 k hkd
  have := (hnew k hk).1
  omega

theorem All.later {cs : List Comp} {w w' : World} (h : All cs w) (hb : Below w.heap.size w w') : All cs w' := h.kept (Fr.below (F := []) hb) (fun d _ k hk => by cases hk)

theorem All.swap {c d : Comp} {cs : List Comp} {w : World} (h : All (c :: d :: cs) w) : All (d :: c :: cs) w := by
  obtain ⟨h1, h2, h3, h4, h5⟩ := h
  refine ⟨h3, fun x hx => ?_, h1, fun x hx => h2 x (by simp [hx]), h5⟩
  rcases List.mem_cons.1 hx with rfl | hx
  · exact (h2 d (by simp)).symm
  · exact h4 x hx

theorem All.perm {cs ds : List Comp} {w : World} (p : cs.Perm ds) (h : All cs w) : All ds w := by
  induction p with
  | nil => exact h
  | cons x _ ih =>
    rename_i l1 l2 hp
    exact ⟨h.1, fun d hd => h.2.1 d (hp.mem_iff.2 hd), ih h.2.2⟩
  | swap x y l => exact h.swap
  | trans _ _ ih1 ih2 => exact ih2 (ih1 h)

theorem All.tail {c : Comp} {cs : List Comp} {w : World} (h : All (c :: cs) w) : All cs w := h.2.2

/-- What came in. -/
def inC (w0 : World) : Comp := ⟨fun w => Below w0.heap.size w0 w, List.range w0.heap.size⟩

theorem inC_good (w0 : World) : (inC w0).Good := by
  intro w w' h hs hb
  have h' : Below w0.heap.size w0 w := h
  exact ⟨hs.os.trans h'.os, hs.tape.trans h'.tape, hs.output.trans h'.output, Nat.le_trans h'.size hs.size, fun k hk => (hb k (List.mem_range.2 hk)).trans (h'.block k hk)⟩

theorem All.came (w : World) : All [inC w] w := ⟨⟨inC_good w, Below.refl _ _, fun k hk => List.mem_range.1 hk⟩, ⟨fun d hd => (by cases hd), trivial⟩⟩

theorem Fr.set {F : List Nat} {w w' : World} (h : Fr F w w') (b j : Nat) (v : Value) (hb : b ∈ F) : Fr F w (w'.setCell ⟨b, j, none⟩ v) :=
  ⟨h.os, h.tape, h.output, by simpa [World.setCell] using h.size, fun k hk hF => (Below.heap_setCell _ _ _ _ (by intro e; exact hF (by rw [show k = b from e]; exact hb))).trans (h.block k hk hF)⟩
theorem Fr.drewN {F : List Nat} {w w' : World} (h : Fr F w w') (q : Nat) : Fr F w (w'.drewN q) := ⟨h.os, h.tape, h.output, h.size, h.block⟩
theorem Fr.drew {F : List Nat} {w w' : World} (h : Fr F w w') : Fr F w w'.drew := ⟨h.os, h.tape, h.output, h.size, h.block⟩
theorem Fr.trans' {F : List Nat} {w w1 w2 : World} (h : Fr F w w1) (k : Fr F w1 w2) : Fr F w w2 :=
  ⟨k.os.trans h.os, k.tape.trans h.tape, k.output.trans h.output, Nat.le_trans h.size k.size, fun i hi hF => (k.block i (Nat.lt_of_lt_of_le hi h.size) hF).trans (h.block i hi hF)⟩
theorem ba (w : World) (o : Obj) : Below w.heap.size w (w.alloc o) := (Below.refl _ _).alloc (Nat.le_refl _) _
theorem bdN (w : World) (q : Nat) : Below w.heap.size w (w.drewN q) := ⟨rfl, rfl, rfl, Nat.le_refl _, fun _ _ => rfl⟩
theorem bd (w : World) : Below w.heap.size w w.drew := ⟨rfl, rfl, rfl, Nat.le_refl _, fun _ _ => rfl⟩
theorem All.drew {cs : List Comp} {w : World} (h : All cs w) : All cs w.drew := h.later (bd w)
theorem All.drewN {cs : List Comp} {w : World} (h : All cs w) (q : Nat) : All cs (w.drewN q) := h.later (bdN w q)
theorem All.alloc {cs : List Comp} {w : World} (h : All cs w) (o : Obj) : All cs (w.alloc o) := h.later (ba w o)
theorem All.mid {xs bs : List Comp} {c : Comp} {w : World} (h : All (xs ++ c :: bs) w) : All (xs ++ bs) w := (h.perm List.perm_middle).tail
theorem All.into {cs : List Comp} {w w0 : World} (h : All cs w) (hin : inC w0 ∈ cs) : Below w0.heap.size w0 w := (h.mem hin).2.1
theorem grown_fr {w w1 : World} {row : Option Nat} (h : w.grownBy w1 row) : Fr row.toList w w1 :=
  ⟨h.os, h.tape, h.output, h.size, fun k hk hF => h.block k hk (fun e => hF (by simp [← e]))⟩
theorem cell_under {w w' : World} (hb : Below w.heap.size w w') {g j : Nat} (hg : g < w.heap.size) {u : Value} (h : w.cell? ⟨g, j, none⟩ = some u) : w'.cell? ⟨g, j, none⟩ = some u := by
  rw [← h]
  unfold World.cell?
  rw [hb.block g hg]

/-- A block, just so. -/
def blkC (g : Nat) (vs : List Value) (t : TypeId) : Comp := ⟨fun w => w.heap[g]? = some (.cells vs.toArray t (0, 0)), [g]⟩
theorem blkC_good (g : Nat) (vs : List Value) (t : TypeId) : (blkC g vs t).Good := fun w w' h _ hb => (hb g (by simp [blkC])).trans h
theorem All.addBlk {cs : List Comp} {w : World} (h : All cs w) (vs : List Value) (t : TypeId) : All (blkC w.heap.size vs t :: cs) (w.alloc (.cells vs.toArray t)) := by
  refine h.add (Fr.below (ba w _)) (blkC_good _ _ _) (heap_alloc_new w _) (fun k hk => ?_)
  have : k = w.heap.size := by simpa [blkC] using hk
  subst this
  exact ⟨Nat.le_refl _, by simp⟩
theorem All.setBlk {g : Nat} {vs : List Value} {t : TypeId} {cs : List Comp} {w : World} (h : All (blkC g vs t :: cs) w) (j : Nat) (u : Value) : All (blkC g (vs.set j u) t :: cs) (w.setCell ⟨g, j, none⟩ u) := by
  have hg : w.heap[g]? = some (.cells vs.toArray t (0, 0)) := h.1.2.1
  refine h.turn (Fr.setCell w g j u) (blkC_good _ _ _) ?_ (fun k hk => Or.inl hk) (fun k hk => ?_)
  · have := heap_setCell_same (j := j) hg u
    simpa [blkC] using this
  · have : k = g := by simpa [blkC] using hk
    subst this
    simpa [World.setCell] using h.1.2.2 k (by simp [blkC])
theorem All.blk {g : Nat} {vs : List Value} {t : TypeId} {cs : List Comp} {w : World} (h : All cs w) (hm : blkC g vs t ∈ cs) : w.heap[g]? = some (.cells vs.toArray t (0, 0)) := (h.mem hm).2.1

/-- A row of one's own. -/
def ownC (e : TypeId) (v : Value) (vs : List Value) : Comp := ⟨fun w => w.ownsRow 0 e 1 v vs.length vs, v.ownBlock.toList⟩
theorem ownC_good (e : TypeId) (v : Value) (vs : List Value) : (ownC e v vs).Good := by
  intro w w' h hs hb
  exact ⟨h.1, by
    rcases h.2 with hn | ⟨g, cap, cur, rfl, hg, hgg, rest⟩
    · exact Or.inl hn
    · exact Or.inr ⟨g, cap, cur, rfl, hg, by rw [hb g (by simp [ownC, Value.ownBlock])]; exact hgg, rest⟩⟩
theorem All.addOwn {e : TypeId} {cs : List Comp} {w w' : World} {v : Value} {l : List Value} (h : All cs w) (hb : Below w.heap.size w w') (ho : w'.ownsRow w.heap.size e 1 v l.length l) : All (ownC e v l :: cs) w' := by
  refine h.add (Fr.below hb) (ownC_good e v l) (owns_zero ho) (fun k hk => ?_)
  have hk' : v.ownBlock = some k := by simpa [ownC] using hk
  exact World.ownsRow.lt ho k hk'
theorem All.addNil {e : TypeId} {cs : List Comp} {w : World} (h : All cs w) : All (ownC e (.slice none 0 0) [] :: cs) w :=
  ⟨⟨ownC_good _ _ _, ⟨by simp, Or.inl ⟨rfl, rfl⟩⟩, fun k hk => by simp [ownC, Value.ownBlock] at hk⟩, fun d hd k hk => by simp [ownC, Value.ownBlock] at hk, h⟩
theorem All.ownGrow {e : TypeId} {v v' : Value} {vs vs' : List Value} {cs : List Comp} {w w1 : World} {base : Nat} (h : All (ownC e v vs :: cs) w) (hown : w1.ownsRow base e 1 v' vs'.length vs') (hg : w.grownBy w1 v.ownBlock) (hat : v'.ownBlock = v.ownBlock ∨ v'.ownBlock = some w.heap.size) : All (ownC e v' vs' :: cs) w1 := by
  have ho' := owns_zero hown
  refine h.turn ((grown_fr hg).mono (fun k hk => by simpa [ownC] using hk)) (ownC_good _ _ _) ho' (fun k hk => ?_) (fun k hk => ?_)
  · have hk' : v'.ownBlock = some k := by simpa [ownC] using hk
    rcases hat with e1 | e1
    · exact Or.inl (by simp [ownC, ← e1, hk'])
    · rw [e1] at hk'; simp at hk'; exact Or.inr (by omega)
  · have hk' : v'.ownBlock = some k := by simpa [ownC] using hk
    exact (ho'.lt k hk').2
theorem owns_at {w : World} {base : Nat} {e : TypeId} {ao : Option Addr} {n c : Nat} {us : List Value} (h : w.ownsRow base e 1 (.slice ao n c) us.length us) {k : Nat} {u : Value} (hu : us[k]? = some u) : ∃ g, ao = some ⟨g, 0, none⟩ ∧ w.cell? ⟨g, k, none⟩ = some u ∧ w.frozen? ⟨g, k, none⟩ = false := by
  have hk := (List.getElem?_eq_some_iff.1 hu).1
  rcases h.2 with ⟨e, e2⟩ | ⟨g, cap, cur, e, _, hg, hn, hm, hcs, ht⟩
  · omega
  · simp only [Value.slice.injEq] at e
    refine ⟨g, e.1, ?_, free_at hg _⟩
    rw [cell_at hg, ← Array.getElem?_toList]
    rw [← ht, List.getElem?_take, if_pos (by omega)] at hu
    exact hu
theorem owns_len {w : World} {base : Nat} {e : TypeId} {ao : Option Addr} {n c : Nat} {us : List Value} (h : w.ownsRow base e 1 (.slice ao n c) us.length us) : n = us.length ∧ us.length ≤ c := by
  rcases h.2 with ⟨e, e2⟩ | ⟨g, cap, cur, e, _, hg, hn, hm, hcs, ht⟩
  · simp only [Value.slice.injEq] at e
    exact ⟨by omega, by omega⟩
  · simp only [Value.slice.injEq] at e
    exact ⟨e.2.1, by omega⟩

end Go.Proofs.YtafickhhdemjnaaGreatDoor

namespace Go.Proofs.YtafickhhdemjnaaGreatDoor
open Go.RowKit
set_option linter.unusedVariables false

def formN : List Int := [0,0,0,0,0,0,0,0, 1,16,0,0,0,0,0,0, 1,16,0,0,0,0,0,0, 1,16,0,64,0,0,0,0, 1,16,0,0,0,1099511627776,0,0, 1,16,1,16,0,0,0,0, 1,16,0,0,0,1099511627776,1,8, 1,16,0,0,0,0,0,0, 0,0,0,0,0,0,0,0]

/-- The table of forms, as the program's text lays it. -/
structure Tab (w : World) : Prop where
  lt : 0 < w.heap.size
  cell : ∀ i, i < 72 → w.cell? ⟨0, i, none⟩ = some (.int .i64 (formN.getD i 0))

theorem Tab.below {w w' : World} (h : Tab w) (hb : Below w.heap.size w w') : Tab w' :=
  ⟨Nat.lt_of_lt_of_le h.lt hb.size, fun i hi => cell_under hb h.lt (h.cell i hi)⟩
theorem Tab.fr {F : List Nat} {w w' : World} (h : Tab w) (hb : Fr F w w') (hF : 0 ∉ F) : Tab w' :=
  ⟨Nat.lt_of_lt_of_le h.lt hb.size, fun i hi => by have := h.cell i hi; simp only [World.cell?, hb.block 0 h.lt hF] at this ⊢; exact this⟩

abbrev spanV (a b : Int) : Value := .agg #[.int .i64 a, .int .i64 b]
def hs (b : Int) : Bool := decide (0 < b)
def hl (a b n : Int) : Bool := decide (a ≤ n) && decide (n ≤ b)
def wr (a b n : Int) : Bool := hs b && !hl a b n
def ex (b n : Int) : Bool := !hs b && decide (n ≠ 0)

theorem has_any {w : World} (a b : Int) : Calls Tryz.prog 147 #[spanV a b] w fun e w' => e = .returned (.bool (hs b)) ∧ Below w.heap.size w w' := by
  go_enter Tryz.func147, Tryz.ntmps147
  go_wp2
  go_ret
  exact ⟨rfl, ba _ _⟩

theorem holds_any {w : World} (a b n : Int) : Calls Tryz.prog 148 #[spanV a b, .int .i64 n] w fun e w' => e = .returned (.bool (hl a b n)) ∧ Below w.heap.size w w' := by
  by_cases h : a ≤ n
  · have e1 : decide (a ≤ n) = true := by simpa using h
    go_enter Tryz.func148, Tryz.ntmps148
    go_wp2
    go_ret
    exact ⟨by simp [hl, h], ba _ _⟩
  · have e1 : decide (a ≤ n) = false := by simpa using h
    go_enter Tryz.func148, Tryz.ntmps148
    go_wp2
    go_ret
    exact ⟨by simp [hl, e1], ba _ _⟩

theorem has_b {w : World} (a b : Int) : Calls Tryz.prog 147 #[spanV a b] w fun e w' => ∃ x, Hid (hs b = x) ∧ e = .returned (.bool x) ∧ Hid (Below w.heap.size w w') :=
  (has_any a b).mono fun e w' ⟨h, h'⟩ => ⟨_, hid rfl, h, h'⟩
theorem holds_b {w : World} (a b n : Int) : Calls Tryz.prog 148 #[spanV a b, .int .i64 n] w fun e w' => ∃ x, Hid (hl a b n = x) ∧ e = .returned (.bool x) ∧ Hid (Below w.heap.size w w') :=
  (holds_any a b n).mono fun e w' ⟨h, h'⟩ => ⟨_, hid rfl, h, h'⟩

theorem b2 {w w1 w2 : World} (h : Below w.heap.size w w1) (k : Below w1.heap.size w1 w2) : Below w.heap.size w w2 := h.trans (k.mono h.size)
end Go.Proofs.YtafickhhdemjnaaGreatDoor

namespace Go.Proofs.YtafickhhdemjnaaGreatDoor
open Go.RowKit
set_option linter.unusedVariables false

set_option maxRecDepth 1000000 in
theorem wrong_any {w : World} (a b n : Int) : Calls Tryz.prog 116 #[spanV a b, .int .i64 n] w fun e w' => e = .returned (.bool (wr a b n)) ∧ Below w.heap.size w w' := by
  go_enter Tryz.func116, Tryz.ntmps116
  go_wp2_with fail
  refine (has_b a b).mono ?_
  rintro e w1 ⟨x, H0, rfl, B1⟩
  have hh := heap_alloc_new w (.cells #[.int .i64 a, .int .i64 b] 188)
  have hh1 : w1.heap[w.heap.size]? = some (.cells #[.int .i64 a, .int .i64 b] 188) := by rw [B1.out.block _ (by simp)]; exact hh
  have c0 : w1.cell? ⟨w.heap.size, 0, none⟩ = some (.int .i64 a) := by rw [cell_at hh1]; rfl
  have c1 : w1.cell? ⟨w.heap.size, 1, none⟩ = some (.int .i64 b) := by rw [cell_at hh1]; rfl
  clear hh hh1
  have B2 := hid (b2 (ba w _) B1.out)
  clear B1
  cases x with
  | false =>
    go_wp2
    go_ret
    exact ⟨by simp [wr, H0.out], B2.out⟩
  | true =>
    go_wp2_with fail
    refine (holds_b a b n).mono ?_
    rintro e w2 ⟨x, H1, rfl, B3⟩
    have B4 := hid (b2 B2.out B3.out)
    clear B2 B3
    go_wp2
    go_ret
    exact ⟨by simp [wr, H0.out, H1.out], B4.out⟩

set_option maxRecDepth 1000000 in
theorem extra_any {w : World} (a b n : Int) : Calls Tryz.prog 117 #[spanV a b, .int .i64 n] w fun e w' => e = .returned (.bool (ex b n)) ∧ Below w.heap.size w w' := by
  go_enter Tryz.func117, Tryz.ntmps117
  go_wp2_with fail
  refine (has_b a b).mono ?_
  rintro e w1 ⟨x, H0, rfl, B1⟩
  have B2 := hid (b2 (ba w _) B1.out)
  clear B1
  cases x with
  | true =>
    go_wp2
    go_ret
    exact ⟨by simp [ex, H0.out], B2.out⟩
  | false =>
    go_wp2
    go_ret
    exact ⟨by simp [ex, H0.out, bne, BEq.beq], B2.out⟩

theorem wrong_b {w : World} (a b n : Int) : Calls Tryz.prog 116 #[spanV a b, .int .i64 n] w fun e w' => ∃ x, Hid (wr a b n = x) ∧ e = .returned (.bool x) ∧ Hid (Below w.heap.size w w') :=
  (wrong_any a b n).mono fun e w' ⟨h, h'⟩ => ⟨_, hid rfl, h, h'⟩
theorem extra_b {w : World} (a b n : Int) : Calls Tryz.prog 117 #[spanV a b, .int .i64 n] w fun e w' => ∃ x, Hid (ex b n = x) ∧ e = .returned (.bool x) ∧ Hid (Below w.heap.size w w') :=
  (extra_any a b n).mono fun e w' ⟨h, h'⟩ => ⟨_, hid rfl, h, h'⟩
end Go.Proofs.YtafickhhdemjnaaGreatDoor

namespace Go.Proofs.YtafickhhdemjnaaGreatDoor
open Go.RowKit
set_option linter.unusedVariables false

abbrev opV (k : Int) (nm tx : ByteArray) (n m : Int) : Value := .agg #[.int .i64 k, .string nm, .string tx, .int .i64 n, .int .i64 m]
abbrev opB (k : Int) (nm tx : ByteArray) (n m : Int) : Obj := .cells #[.int .i64 k, .string nm, .string tx, .int .i64 n, .int .i64 m] 34

/-- What Check tells of an op whose kind may be, by the row of its kind. -/
def chkR (a0 a1 a2 a3 a4 a5 a6 a7 : Int) (s t n m : Int) : Int :=
  if wr a0 a1 s then 51 else if wr a2 a3 t then 52 else if wr a4 a5 n then 53 else if wr a6 a7 m then 54
  else if ex a1 s then 55 else if ex a3 t then 55 else if ex a5 n then 55 else if ex a7 m then 55 else 0

abbrev formB (a0 a1 a2 a3 a4 a5 a6 a7 : Int) : Obj := .cells #[.int .i64 a0, .int .i64 a1, .int .i64 a2, .int .i64 a3, .int .i64 a4, .int .i64 a5, .int .i64 a6, .int .i64 a7] 190

/-- The op and the row of its kind lie in two blocks of their own. -/
structure Two (w w1 : World) (o f : Obj) : Prop where
  op : w1.heap[w.heap.size]? = some o
  row : w1.heap[w.heap.size + 1]? = some f
  lt : w.heap.size + 1 < w1.heap.size
  below : Below w.heap.size w w1

theorem Two.first (w : World) (o f : Obj) : Two w ((w.alloc o).alloc f) o f := by
  have h1 := heap_alloc_new w o
  have h2 := heap_alloc_new (w.alloc o) f
  have hs : (w.alloc o).heap.size = w.heap.size + 1 := by simp
  rw [hs] at h2
  refine ⟨?_, h2, by simp, b2 (ba w o) (ba _ f)⟩
  rw [(ba (w.alloc o) f).block _ (by simp)]; exact h1
theorem Two.next {w w1 w2 : World} {o f : Obj} (h : Two w w1 o f) (hb : Below w1.heap.size w1 w2) : Two w w2 o f :=
  ⟨by rw [hb.block _ (Nat.lt_of_succ_lt h.lt)]; exact h.op, by rw [hb.block _ h.lt]; exact h.row, Nat.lt_of_lt_of_le h.lt hb.size, b2 h.below hb⟩

set_option maxHeartbeats 3200000 in
set_option maxRecDepth 1000000 in
theorem check_row {w : World} (k : Nat) (hk1 : 1 ≤ k) (hk8 : k ≤ 8) (nm tx : ByteArray) (n m : Int) (a0 a1 a2 a3 a4 a5 a6 a7 : Int)
    (c0 : w.cell? ⟨0, k * 8, none⟩ = some (.int .i64 a0))
    (c1 : w.cell? ⟨0, k * 8 + 1, none⟩ = some (.int .i64 a1))
    (c2 : w.cell? ⟨0, k * 8 + 2, none⟩ = some (.int .i64 a2))
    (c3 : w.cell? ⟨0, k * 8 + 3, none⟩ = some (.int .i64 a3))
    (c4 : w.cell? ⟨0, k * 8 + 4, none⟩ = some (.int .i64 a4))
    (c5 : w.cell? ⟨0, k * 8 + 5, none⟩ = some (.int .i64 a5))
    (c6 : w.cell? ⟨0, k * 8 + 6, none⟩ = some (.int .i64 a6))
    (c7 : w.cell? ⟨0, k * 8 + 7, none⟩ = some (.int .i64 a7))
    (h0 : 0 < w.heap.size) :
    Calls Tryz.prog 80 #[opV k nm tx n m] w fun e w' => e = .returned (.int .i64 (chkR a0 a1 a2 a3 a4 a5 a6 a7 nm.size tx.size n m)) ∧ Below w.heap.size w w' := by
  have A0 := fun o => cell_under (ba w o) h0 c0
  have A1 := fun o => cell_under (ba w o) h0 c1
  have A2 := fun o => cell_under (ba w o) h0 c2
  have A3 := fun o => cell_under (ba w o) h0 c3
  have A4 := fun o => cell_under (ba w o) h0 c4
  have A5 := fun o => cell_under (ba w o) h0 c5
  have A6 := fun o => cell_under (ba w o) h0 c6
  have A7 := fun o => cell_under (ba w o) h0 c7
  clear c0 c1 c2 c3 c4 c5 c6 c7 h0
  go_enter Tryz.func80, Tryz.ntmps80
  go_wp2_with fail
  refine (wrong_b _ _ _).mono ?_
  rintro e w1 ⟨x, H0, rfl, B⟩
  have T := hid ((Two.first w _ _).next B.out)
  clear B A0 A1 A2 A3 A4 A5 A6 A7
  have o1 : w1.cell? ⟨w.heap.size, 1, none⟩ = some ((.string nm)) := by rw [cell_at T.out.op]; rfl
  have o2 : w1.cell? ⟨w.heap.size, 2, none⟩ = some ((.string tx)) := by rw [cell_at T.out.op]; rfl
  have o3 : w1.cell? ⟨w.heap.size, 3, none⟩ = some ((.int .i64 n)) := by rw [cell_at T.out.op]; rfl
  have o4 : w1.cell? ⟨w.heap.size, 4, none⟩ = some ((.int .i64 m)) := by rw [cell_at T.out.op]; rfl
  have r0 : w1.cell? ⟨w.heap.size + 1, 0, none⟩ = some (.int .i64 a0) := by rw [cell_at T.out.row]; rfl
  have r1 : w1.cell? ⟨w.heap.size + 1, 1, none⟩ = some (.int .i64 a1) := by rw [cell_at T.out.row]; rfl
  have r2 : w1.cell? ⟨w.heap.size + 1, 2, none⟩ = some (.int .i64 a2) := by rw [cell_at T.out.row]; rfl
  have r3 : w1.cell? ⟨w.heap.size + 1, 3, none⟩ = some (.int .i64 a3) := by rw [cell_at T.out.row]; rfl
  have r4 : w1.cell? ⟨w.heap.size + 1, 4, none⟩ = some (.int .i64 a4) := by rw [cell_at T.out.row]; rfl
  have r5 : w1.cell? ⟨w.heap.size + 1, 5, none⟩ = some (.int .i64 a5) := by rw [cell_at T.out.row]; rfl
  have r6 : w1.cell? ⟨w.heap.size + 1, 6, none⟩ = some (.int .i64 a6) := by rw [cell_at T.out.row]; rfl
  have r7 : w1.cell? ⟨w.heap.size + 1, 7, none⟩ = some (.int .i64 a7) := by rw [cell_at T.out.row]; rfl
  cases x with
  | true =>
    go_wp2
    go_ret
    exact ⟨by simp [chkR, H0.out], T.out.below⟩
  | false =>
    go_wp2_with fail
    refine (wrong_b _ _ _).mono ?_
    rintro e w2 ⟨x, H1, rfl, B⟩
    have T := hid (T.out.next B.out)
    clear B o1 o2 o3 o4 r0 r1 r2 r3 r4 r5 r6 r7
    have o1 : w2.cell? ⟨w.heap.size, 1, none⟩ = some ((.string nm)) := by rw [cell_at T.out.op]; rfl
    have o2 : w2.cell? ⟨w.heap.size, 2, none⟩ = some ((.string tx)) := by rw [cell_at T.out.op]; rfl
    have o3 : w2.cell? ⟨w.heap.size, 3, none⟩ = some ((.int .i64 n)) := by rw [cell_at T.out.op]; rfl
    have o4 : w2.cell? ⟨w.heap.size, 4, none⟩ = some ((.int .i64 m)) := by rw [cell_at T.out.op]; rfl
    have r0 : w2.cell? ⟨w.heap.size + 1, 0, none⟩ = some (.int .i64 a0) := by rw [cell_at T.out.row]; rfl
    have r1 : w2.cell? ⟨w.heap.size + 1, 1, none⟩ = some (.int .i64 a1) := by rw [cell_at T.out.row]; rfl
    have r2 : w2.cell? ⟨w.heap.size + 1, 2, none⟩ = some (.int .i64 a2) := by rw [cell_at T.out.row]; rfl
    have r3 : w2.cell? ⟨w.heap.size + 1, 3, none⟩ = some (.int .i64 a3) := by rw [cell_at T.out.row]; rfl
    have r4 : w2.cell? ⟨w.heap.size + 1, 4, none⟩ = some (.int .i64 a4) := by rw [cell_at T.out.row]; rfl
    have r5 : w2.cell? ⟨w.heap.size + 1, 5, none⟩ = some (.int .i64 a5) := by rw [cell_at T.out.row]; rfl
    have r6 : w2.cell? ⟨w.heap.size + 1, 6, none⟩ = some (.int .i64 a6) := by rw [cell_at T.out.row]; rfl
    have r7 : w2.cell? ⟨w.heap.size + 1, 7, none⟩ = some (.int .i64 a7) := by rw [cell_at T.out.row]; rfl
    cases x with
    | true =>
      go_wp2
      go_ret
      exact ⟨by simp [chkR, H0.out, H1.out], T.out.below⟩
    | false =>
      go_wp2_with fail
      refine (wrong_b _ _ _).mono ?_
      rintro e w3 ⟨x, H2, rfl, B⟩
      have T := hid (T.out.next B.out)
      clear B o1 o2 o3 o4 r0 r1 r2 r3 r4 r5 r6 r7
      have o1 : w3.cell? ⟨w.heap.size, 1, none⟩ = some ((.string nm)) := by rw [cell_at T.out.op]; rfl
      have o2 : w3.cell? ⟨w.heap.size, 2, none⟩ = some ((.string tx)) := by rw [cell_at T.out.op]; rfl
      have o3 : w3.cell? ⟨w.heap.size, 3, none⟩ = some ((.int .i64 n)) := by rw [cell_at T.out.op]; rfl
      have o4 : w3.cell? ⟨w.heap.size, 4, none⟩ = some ((.int .i64 m)) := by rw [cell_at T.out.op]; rfl
      have r0 : w3.cell? ⟨w.heap.size + 1, 0, none⟩ = some (.int .i64 a0) := by rw [cell_at T.out.row]; rfl
      have r1 : w3.cell? ⟨w.heap.size + 1, 1, none⟩ = some (.int .i64 a1) := by rw [cell_at T.out.row]; rfl
      have r2 : w3.cell? ⟨w.heap.size + 1, 2, none⟩ = some (.int .i64 a2) := by rw [cell_at T.out.row]; rfl
      have r3 : w3.cell? ⟨w.heap.size + 1, 3, none⟩ = some (.int .i64 a3) := by rw [cell_at T.out.row]; rfl
      have r4 : w3.cell? ⟨w.heap.size + 1, 4, none⟩ = some (.int .i64 a4) := by rw [cell_at T.out.row]; rfl
      have r5 : w3.cell? ⟨w.heap.size + 1, 5, none⟩ = some (.int .i64 a5) := by rw [cell_at T.out.row]; rfl
      have r6 : w3.cell? ⟨w.heap.size + 1, 6, none⟩ = some (.int .i64 a6) := by rw [cell_at T.out.row]; rfl
      have r7 : w3.cell? ⟨w.heap.size + 1, 7, none⟩ = some (.int .i64 a7) := by rw [cell_at T.out.row]; rfl
      cases x with
      | true =>
        go_wp2
        go_ret
        exact ⟨by simp [chkR, H0.out, H1.out, H2.out], T.out.below⟩
      | false =>
        go_wp2_with fail
        refine (wrong_b _ _ _).mono ?_
        rintro e w4 ⟨x, H3, rfl, B⟩
        have T := hid (T.out.next B.out)
        clear B o1 o2 o3 o4 r0 r1 r2 r3 r4 r5 r6 r7
        have o1 : w4.cell? ⟨w.heap.size, 1, none⟩ = some ((.string nm)) := by rw [cell_at T.out.op]; rfl
        have o2 : w4.cell? ⟨w.heap.size, 2, none⟩ = some ((.string tx)) := by rw [cell_at T.out.op]; rfl
        have o3 : w4.cell? ⟨w.heap.size, 3, none⟩ = some ((.int .i64 n)) := by rw [cell_at T.out.op]; rfl
        have o4 : w4.cell? ⟨w.heap.size, 4, none⟩ = some ((.int .i64 m)) := by rw [cell_at T.out.op]; rfl
        have r0 : w4.cell? ⟨w.heap.size + 1, 0, none⟩ = some (.int .i64 a0) := by rw [cell_at T.out.row]; rfl
        have r1 : w4.cell? ⟨w.heap.size + 1, 1, none⟩ = some (.int .i64 a1) := by rw [cell_at T.out.row]; rfl
        have r2 : w4.cell? ⟨w.heap.size + 1, 2, none⟩ = some (.int .i64 a2) := by rw [cell_at T.out.row]; rfl
        have r3 : w4.cell? ⟨w.heap.size + 1, 3, none⟩ = some (.int .i64 a3) := by rw [cell_at T.out.row]; rfl
        have r4 : w4.cell? ⟨w.heap.size + 1, 4, none⟩ = some (.int .i64 a4) := by rw [cell_at T.out.row]; rfl
        have r5 : w4.cell? ⟨w.heap.size + 1, 5, none⟩ = some (.int .i64 a5) := by rw [cell_at T.out.row]; rfl
        have r6 : w4.cell? ⟨w.heap.size + 1, 6, none⟩ = some (.int .i64 a6) := by rw [cell_at T.out.row]; rfl
        have r7 : w4.cell? ⟨w.heap.size + 1, 7, none⟩ = some (.int .i64 a7) := by rw [cell_at T.out.row]; rfl
        cases x with
        | true =>
          go_wp2
          go_ret
          exact ⟨by simp [chkR, H0.out, H1.out, H2.out, H3.out], T.out.below⟩
        | false =>
          go_wp2_with fail
          refine (extra_b _ _ _).mono ?_
          rintro e w5 ⟨x, H4, rfl, B⟩
          have T := hid (T.out.next B.out)
          clear B o1 o2 o3 o4 r0 r1 r2 r3 r4 r5 r6 r7
          have o1 : w5.cell? ⟨w.heap.size, 1, none⟩ = some ((.string nm)) := by rw [cell_at T.out.op]; rfl
          have o2 : w5.cell? ⟨w.heap.size, 2, none⟩ = some ((.string tx)) := by rw [cell_at T.out.op]; rfl
          have o3 : w5.cell? ⟨w.heap.size, 3, none⟩ = some ((.int .i64 n)) := by rw [cell_at T.out.op]; rfl
          have o4 : w5.cell? ⟨w.heap.size, 4, none⟩ = some ((.int .i64 m)) := by rw [cell_at T.out.op]; rfl
          have r0 : w5.cell? ⟨w.heap.size + 1, 0, none⟩ = some (.int .i64 a0) := by rw [cell_at T.out.row]; rfl
          have r1 : w5.cell? ⟨w.heap.size + 1, 1, none⟩ = some (.int .i64 a1) := by rw [cell_at T.out.row]; rfl
          have r2 : w5.cell? ⟨w.heap.size + 1, 2, none⟩ = some (.int .i64 a2) := by rw [cell_at T.out.row]; rfl
          have r3 : w5.cell? ⟨w.heap.size + 1, 3, none⟩ = some (.int .i64 a3) := by rw [cell_at T.out.row]; rfl
          have r4 : w5.cell? ⟨w.heap.size + 1, 4, none⟩ = some (.int .i64 a4) := by rw [cell_at T.out.row]; rfl
          have r5 : w5.cell? ⟨w.heap.size + 1, 5, none⟩ = some (.int .i64 a5) := by rw [cell_at T.out.row]; rfl
          have r6 : w5.cell? ⟨w.heap.size + 1, 6, none⟩ = some (.int .i64 a6) := by rw [cell_at T.out.row]; rfl
          have r7 : w5.cell? ⟨w.heap.size + 1, 7, none⟩ = some (.int .i64 a7) := by rw [cell_at T.out.row]; rfl
          cases x with
          | true =>
            go_wp2
            go_ret
            exact ⟨by simp [chkR, H0.out, H1.out, H2.out, H3.out, H4.out], T.out.below⟩
          | false =>
            go_wp2_with fail
            refine (extra_b _ _ _).mono ?_
            rintro e w6 ⟨x, H5, rfl, B⟩
            have T := hid (T.out.next B.out)
            clear B o1 o2 o3 o4 r0 r1 r2 r3 r4 r5 r6 r7
            have o1 : w6.cell? ⟨w.heap.size, 1, none⟩ = some ((.string nm)) := by rw [cell_at T.out.op]; rfl
            have o2 : w6.cell? ⟨w.heap.size, 2, none⟩ = some ((.string tx)) := by rw [cell_at T.out.op]; rfl
            have o3 : w6.cell? ⟨w.heap.size, 3, none⟩ = some ((.int .i64 n)) := by rw [cell_at T.out.op]; rfl
            have o4 : w6.cell? ⟨w.heap.size, 4, none⟩ = some ((.int .i64 m)) := by rw [cell_at T.out.op]; rfl
            have r0 : w6.cell? ⟨w.heap.size + 1, 0, none⟩ = some (.int .i64 a0) := by rw [cell_at T.out.row]; rfl
            have r1 : w6.cell? ⟨w.heap.size + 1, 1, none⟩ = some (.int .i64 a1) := by rw [cell_at T.out.row]; rfl
            have r2 : w6.cell? ⟨w.heap.size + 1, 2, none⟩ = some (.int .i64 a2) := by rw [cell_at T.out.row]; rfl
            have r3 : w6.cell? ⟨w.heap.size + 1, 3, none⟩ = some (.int .i64 a3) := by rw [cell_at T.out.row]; rfl
            have r4 : w6.cell? ⟨w.heap.size + 1, 4, none⟩ = some (.int .i64 a4) := by rw [cell_at T.out.row]; rfl
            have r5 : w6.cell? ⟨w.heap.size + 1, 5, none⟩ = some (.int .i64 a5) := by rw [cell_at T.out.row]; rfl
            have r6 : w6.cell? ⟨w.heap.size + 1, 6, none⟩ = some (.int .i64 a6) := by rw [cell_at T.out.row]; rfl
            have r7 : w6.cell? ⟨w.heap.size + 1, 7, none⟩ = some (.int .i64 a7) := by rw [cell_at T.out.row]; rfl
            cases x with
            | true =>
              go_wp2
              go_ret
              exact ⟨by simp [chkR, H0.out, H1.out, H2.out, H3.out, H4.out, H5.out], T.out.below⟩
            | false =>
              go_wp2_with fail
              refine (extra_b _ _ _).mono ?_
              rintro e w7 ⟨x, H6, rfl, B⟩
              have T := hid (T.out.next B.out)
              clear B o1 o2 o3 o4 r0 r1 r2 r3 r4 r5 r6 r7
              have o1 : w7.cell? ⟨w.heap.size, 1, none⟩ = some ((.string nm)) := by rw [cell_at T.out.op]; rfl
              have o2 : w7.cell? ⟨w.heap.size, 2, none⟩ = some ((.string tx)) := by rw [cell_at T.out.op]; rfl
              have o3 : w7.cell? ⟨w.heap.size, 3, none⟩ = some ((.int .i64 n)) := by rw [cell_at T.out.op]; rfl
              have o4 : w7.cell? ⟨w.heap.size, 4, none⟩ = some ((.int .i64 m)) := by rw [cell_at T.out.op]; rfl
              have r0 : w7.cell? ⟨w.heap.size + 1, 0, none⟩ = some (.int .i64 a0) := by rw [cell_at T.out.row]; rfl
              have r1 : w7.cell? ⟨w.heap.size + 1, 1, none⟩ = some (.int .i64 a1) := by rw [cell_at T.out.row]; rfl
              have r2 : w7.cell? ⟨w.heap.size + 1, 2, none⟩ = some (.int .i64 a2) := by rw [cell_at T.out.row]; rfl
              have r3 : w7.cell? ⟨w.heap.size + 1, 3, none⟩ = some (.int .i64 a3) := by rw [cell_at T.out.row]; rfl
              have r4 : w7.cell? ⟨w.heap.size + 1, 4, none⟩ = some (.int .i64 a4) := by rw [cell_at T.out.row]; rfl
              have r5 : w7.cell? ⟨w.heap.size + 1, 5, none⟩ = some (.int .i64 a5) := by rw [cell_at T.out.row]; rfl
              have r6 : w7.cell? ⟨w.heap.size + 1, 6, none⟩ = some (.int .i64 a6) := by rw [cell_at T.out.row]; rfl
              have r7 : w7.cell? ⟨w.heap.size + 1, 7, none⟩ = some (.int .i64 a7) := by rw [cell_at T.out.row]; rfl
              cases x with
              | true =>
                go_wp2
                go_ret
                exact ⟨by simp [chkR, H0.out, H1.out, H2.out, H3.out, H4.out, H5.out, H6.out], T.out.below⟩
              | false =>
                go_wp2_with fail
                refine (extra_b _ _ _).mono ?_
                rintro e w8 ⟨x, H7, rfl, B⟩
                have T := hid (T.out.next B.out)
                clear B o1 o2 o3 o4 r0 r1 r2 r3 r4 r5 r6 r7
                have o1 : w8.cell? ⟨w.heap.size, 1, none⟩ = some ((.string nm)) := by rw [cell_at T.out.op]; rfl
                have o2 : w8.cell? ⟨w.heap.size, 2, none⟩ = some ((.string tx)) := by rw [cell_at T.out.op]; rfl
                have o3 : w8.cell? ⟨w.heap.size, 3, none⟩ = some ((.int .i64 n)) := by rw [cell_at T.out.op]; rfl
                have o4 : w8.cell? ⟨w.heap.size, 4, none⟩ = some ((.int .i64 m)) := by rw [cell_at T.out.op]; rfl
                have r0 : w8.cell? ⟨w.heap.size + 1, 0, none⟩ = some (.int .i64 a0) := by rw [cell_at T.out.row]; rfl
                have r1 : w8.cell? ⟨w.heap.size + 1, 1, none⟩ = some (.int .i64 a1) := by rw [cell_at T.out.row]; rfl
                have r2 : w8.cell? ⟨w.heap.size + 1, 2, none⟩ = some (.int .i64 a2) := by rw [cell_at T.out.row]; rfl
                have r3 : w8.cell? ⟨w.heap.size + 1, 3, none⟩ = some (.int .i64 a3) := by rw [cell_at T.out.row]; rfl
                have r4 : w8.cell? ⟨w.heap.size + 1, 4, none⟩ = some (.int .i64 a4) := by rw [cell_at T.out.row]; rfl
                have r5 : w8.cell? ⟨w.heap.size + 1, 5, none⟩ = some (.int .i64 a5) := by rw [cell_at T.out.row]; rfl
                have r6 : w8.cell? ⟨w.heap.size + 1, 6, none⟩ = some (.int .i64 a6) := by rw [cell_at T.out.row]; rfl
                have r7 : w8.cell? ⟨w.heap.size + 1, 7, none⟩ = some (.int .i64 a7) := by rw [cell_at T.out.row]; rfl
                cases x with
                | true =>
                  go_wp2
                  go_ret
                  exact ⟨by simp [chkR, H0.out, H1.out, H2.out, H3.out, H4.out, H5.out, H6.out, H7.out], T.out.below⟩
                | false =>
                  go_wp2
                  go_ret
                  exact ⟨by simp [chkR, H0.out, H1.out, H2.out, H3.out, H4.out, H5.out, H6.out, H7.out], T.out.below⟩
end Go.Proofs.YtafickhhdemjnaaGreatDoor

namespace Go.Proofs.YtafickhhdemjnaaGreatDoor
open Go.RowKit
set_option linter.unusedVariables false

/-- A list of texts that is read. -/
def Txts (w : World) (s : Value) (l : List ByteArray) : Prop :=
  ∃ ao c, s = .slice ao l.length c ∧ l.length ≤ c ∧ (l = [] ∨ ∃ g o, ao = some ⟨g, o, none⟩ ∧ g < w.heap.size ∧ ∀ j (h : j < l.length), w.cell? ⟨g, o + j, none⟩ = some (.string l[j]))

theorem Txts.later {w w' : World} {s : Value} {l : List ByteArray} (h : Txts w s l) (hb : Below w.heap.size w w') : Txts w' s l := by
  obtain ⟨ao, c, e, hc, hx⟩ := h
  refine ⟨ao, c, e, hc, hx.imp id ?_⟩
  rintro ⟨g, o, ea, hg, hcell⟩
  exact ⟨g, o, ea, Nat.lt_of_lt_of_le hg hb.size, fun j hj => cell_under hb hg (hcell j hj)⟩
theorem Txts.alloc {w : World} {s : Value} {l : List ByteArray} (h : Txts w s l) (o : Obj) : Txts (w.alloc o) s l := h.later (ba w o)

theorem Txts.form {w : World} {s : Value} {l : List ByteArray} (h : Txts w s l) : ∃ ao c, s = .slice ao l.length c := by obtain ⟨ao, c, e, _⟩ := h; exact ⟨ao, c, e⟩
theorem Txts.at {w : World} {ao : Option Addr} {n c : Nat} {l : List ByteArray} (h : Txts w (.slice ao n c) l) {j : Nat} (hj : j < l.length) : ∃ g o, ao = some ⟨g, o, none⟩ ∧ g < w.heap.size ∧ w.cell? ⟨g, o + j, none⟩ = some (.string l[j]) := by
  obtain ⟨ao', c', e, hc, hx⟩ := h
  simp only [Value.slice.injEq] at e
  obtain ⟨rfl, _, _⟩ := e
  rcases hx with rfl | ⟨g, o, ea, hg, hcell⟩
  · simp at hj
  · exact ⟨g, o, ea, hg, hcell j hj⟩

abbrev resV (c n : Int) (s : Value) : Value := .agg #[.int .i64 c, .int .i64 n, s]

/-- What CheckResult tells. -/
def chkX (c n : Int) (l : List ByteArray) : Int :=
  if c < 0 ∨ 4 < c then 50 else if c ≠ 0 ∧ (n ≠ 0 ∨ l ≠ []) then 55 else if n < 0 ∨ 1099511627776 < n then 53
  else if 8 < l.length then 54 else if ∃ t ∈ l, 64 < t.size then 52 else 0

theorem query_any {w : World} (k : Int) : Calls Tryz.prog 81 #[.int .i64 k] w fun e w' => e = .returned (.bool (decide (6 ≤ k ∧ k ≤ 8))) ∧ w' = w := by
  by_cases h6 : k = 6
  · subst h6
    go_enter Tryz.func81, Tryz.ntmps81
    go_wp2
    go_ret
    exact ⟨by simp, rfl⟩
  · have e6 : (k == 6) = false := by simpa using h6
    by_cases h7 : k = 7
    · subst h7
      go_enter Tryz.func81, Tryz.ntmps81
      go_wp2
      go_ret
      exact ⟨by simp, rfl⟩
    · have e7 : (k == 7) = false := by simpa using h7
      have e : decide (6 ≤ k ∧ k ≤ 8) = (k == 8) := by rw [Bool.eq_iff_iff]; simp; omega
      rw [e]
      clear h6 h7 e
      go_enter Tryz.func81, Tryz.ntmps81
      go_wp2
      go_ret
      exact ⟨rfl, rfl⟩

set_option maxHeartbeats 1600000 in
set_option maxRecDepth 1000000 in
theorem checkX_any {w : World} (c n : Int) {s : Value} {l : List ByteArray} (h : Txts w s l) (hl : l.length ≤ 9223372036854775807) : Calls Tryz.prog 192 #[resV c n s] w fun e w' => e = .returned (.int .i64 (chkX c n l)) ∧ Below w.heap.size w w' := by
  obtain ⟨ao, cp, rfl⟩ := h.form
  have HT := hid h
  have HH : Hid (∀ o, ∃ w1, w1 = w.alloc o) := fun o => ⟨_, rfl⟩
  clear h
  by_cases c0 : c < 0
  · have F : Hid (chkX c n l = 50) := by simp [chkX, c0, Hid]
    have e0 : decide (c < 0) = true := by simpa using c0
    go_enter Tryz.func192, Tryz.ntmps192
    go_wp2
    go_ret
    exact ⟨by rw [F.out]; rfl, ba _ _⟩
  have e0 : decide (c < 0) = false := by simpa using c0
  by_cases c4 : 4 < c
  · have F : Hid (chkX c n l = 50) := by simp [chkX, c4, Hid]
    have e4 : decide (4 < c) = true := by simpa using c4
    go_enter Tryz.func192, Tryz.ntmps192
    go_wp2
    go_ret
    exact ⟨by rw [F.out]; rfl, ba _ _⟩
  have e4 : decide (4 < c) = false := by simpa using c4
  by_cases hcn : c ≠ 0 ∧ (n ≠ 0 ∨ l ≠ [])
  · have F : Hid (chkX c n l = 55) := by unfold chkX; rw [if_neg (by omega), if_pos hcn]; exact rfl
    have ec : (c != 0) = true := by simpa using hcn.1
    by_cases hn : n = 0
    · have hl0 : 0 < l.length := by
        rcases hcn.2 with h | h
        · exact absurd hn h
        · exact List.length_pos_iff.2 h
      subst hn
      have eL : decide (0 < (l.length : Int)) = true := by simpa using hl0
      clear hcn
      go_enter Tryz.func192, Tryz.ntmps192
      go_wp2
      go_ret
      exact ⟨by rw [F.out]; rfl, ba _ _⟩
    · have en : (n != 0) = true := by simpa using hn
      clear hcn
      go_enter Tryz.func192, Tryz.ntmps192
      go_wp2
      go_ret
      exact ⟨by rw [F.out]; rfl, ba _ _⟩
  have G : Hid (c = 0 ∨ (c ≠ 0 ∧ n = 0 ∧ l = [])) := by
    rcases Classical.em (c = 0) with h | h
    · exact Or.inl h
    · refine Or.inr ⟨h, ?_, ?_⟩
      · exact Classical.byContradiction fun hh => hcn ⟨h, Or.inl hh⟩
      · exact Classical.byContradiction fun hh => hcn ⟨h, Or.inr hh⟩
  have F1 : Hid (chkX c n l = if n < 0 ∨ 1099511627776 < n then 53 else if 8 < l.length then 54 else if ∃ t ∈ l, 64 < t.size then 52 else 0) := by unfold chkX; rw [if_neg (by omega), if_neg hcn]; exact rfl
  clear hcn
  rcases G.out with hc | ⟨hc, hn0, hl0⟩
  · subst hc
    clear G e0 e4 c0 c4
    by_cases n0 : n < 0
    · have F : Hid (chkX 0 n l = 53) := by rw [F1.out]; simp [n0, Hid]
      have en : decide (n < 0) = true := by simpa using n0
      clear F1
      go_enter Tryz.func192, Tryz.ntmps192
      go_wp2
      go_ret
      exact ⟨by rw [F.out]; rfl, ba _ _⟩
    have en : decide (n < 0) = false := by simpa using n0
    by_cases n1 : 1099511627776 < n
    · have F : Hid (chkX 0 n l = 53) := by rw [F1.out]; simp [n1, Hid]
      have en1 : decide (1099511627776 < n) = true := by simpa using n1
      clear F1
      go_enter Tryz.func192, Tryz.ntmps192
      go_wp2
      go_ret
      exact ⟨by rw [F.out]; rfl, ba _ _⟩
    have en1 : decide (1099511627776 < n) = false := by simpa using n1
    by_cases l8 : 8 < l.length
    · have F : Hid (chkX 0 n l = 54) := by rw [F1.out]; simp [l8, Hid]; omega
      have e8 : decide ((8 : Int) < (l.length : Int)) = true := by simp; omega
      clear F1
      go_enter Tryz.func192, Tryz.ntmps192
      go_wp2
      go_ret
      exact ⟨by rw [F.out]; rfl, ba _ _⟩
    have e8 : decide ((8 : Int) < (l.length : Int)) = false := by simp; omega
    have F2 : Hid (chkX 0 n l = if ∃ t ∈ l, 64 < t.size then 52 else 0) := by rw [F1.out, if_neg (by omega), if_neg l8]; exact rfl
    clear F1
    go_enter Tryz.func192, Tryz.ntmps192
    go_wp2
    go_loopw [46] (fun iv wr => ∃ k : Nat, iv = .int .i64 (k : Int) ∧ k ≤ l.length ∧ Hid (∀ j (hj : j < k) (hl : j < l.length), l[j].size ≤ 64) ∧ wr = w.alloc (.cells #[.int .i64 0, .int .i64 n, .slice ao l.length cp] 56)) (fun iv _ => l.length - (intOf iv).toNat)
    case atStart => exact ⟨0, rfl, Nat.zero_le _, fun j hj => absurd hj (by omega), rfl⟩
    case round =>
      obtain ⟨k, rfl, hk, hbef, rfl⟩ := hrel
      by_cases hlt : k < l.length
      · obtain ⟨g, o, ea, hg, hcell⟩ := (HT.out.alloc (.cells #[.int .i64 0, .int .i64 n, .slice ao l.length cp] 56)).at hlt
        subst ea
        have el : decide ((k : Int) < (l.length : Int)) = true := by simpa using hlt
        by_cases h64 : 64 < (l[k]'hlt).size
        · have e64 : decide ((64 : Int) < ((l[k]'hlt).size : Int)) = true := by simp; omega
          go_wp2
          go_ret
          exact ⟨by rw [F2.out, if_pos ⟨_, List.getElem_mem hlt, h64⟩]; rfl, ba _ _⟩
        · have e64 : decide ((64 : Int) < ((l[k]'hlt).size : Int)) = false := by simp; omega
          go_wp2
          go_roundw
          case rel => exact ⟨k + 1, by go_num, by omega, fun j hj hl => by rcases Nat.lt_succ_iff_lt_or_eq.1 hj with h | h; exact hbef.out j h hl; subst h; omega, trivial⟩
          case measure => simp [intOf]; omega
      · have el : decide ((k : Int) < (l.length : Int)) = false := by simp; omega
        go_wp2
        go_ret
        exact ⟨by rw [F2.out, if_neg]; rfl; rintro ⟨t, ht, h64⟩; obtain ⟨j, hj, rfl⟩ := List.getElem_of_mem ht; have := hbef.out j (by omega) hj; omega, ba _ _⟩
  · subst hn0
    subst hl0
    have F2 : Hid (chkX c 0 [] = 0) := by rw [F1.out]; simp [Hid]
    have ec : (c != 0) = true := by simpa using hc
    clear F1 G
    simp only [List.length_nil] at HT ⊢
    go_enter Tryz.func192, Tryz.ntmps192
    go_wp2
    go_loopw [46] (fun iv wr => iv = .int .i64 0 ∧ wr = w.alloc (.cells #[.int .i64 c, .int .i64 0, .slice ao 0 cp] 56)) (fun iv _ => 0)
    case atStart => exact ⟨rfl, rfl⟩
    case round =>
      obtain ⟨rfl, rfl⟩ := hrel
      go_wp2
      go_ret
      exact ⟨by rw [F2.out]; rfl, ba _ _⟩

end Go.Proofs.YtafickhhdemjnaaGreatDoor

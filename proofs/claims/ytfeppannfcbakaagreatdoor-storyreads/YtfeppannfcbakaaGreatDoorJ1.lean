import Derived.Test.YtfeppannfcbakaaGreatDoorRows
import Derived.WalkKit
import Derived.WalkSpells
import Derived.WalkLawsBesides
import Derived.Maps.AppendAt
import Derived.Laws.AppendOwnNone
import Derived.Laws.BitsAllLaws
import Derived.Deep.Draws
import Derived.ArgAppend
import Derived.Deep.RegionLaw
import Derived.Deep.RegionWith
import Derived.Deep.DrawnRows
import Derived.Deep.AppendLies
import Derived.WalkMore
import Derived.Deep.LoopGhost
import Derived.Deep.Upon
import Derived.Deep.QuietTactic
import Derived.BigQuiet
import Derived.Laws.Rows
import Derived.Deep.MidRow
import Derived.Deep.RegionHeld3
import Derived.Deep.DeepCutAuto
import Derived.Lib.Strings
namespace Go.Proofs.YtfeppannfcbakaaGreatDoor
open Go.RowKit
set_option linter.unusedVariables false
theorem hid {p : Prop} (h : p) : Hid p := h
theorem cell_at {w : World} {b : Nat} {cs : Array Value} {t : TypeId} {fr : Nat × Nat} (h : w.heap[b]? = some (.cells cs t fr)) (j : Nat) : w.cell? ⟨b, j, none⟩ = cs[j]? := by
 simp [World.cell?, h]
theorem free_at {w : World} {b : Nat} {cs : Array Value} {t : TypeId} (h : w.heap[b]? = some (.cells cs t (0, 0))) (j : Nat) : w.frozen? ⟨b, j, none⟩ = false := by
 simp [World.frozen?, h]
theorem heap_setCell_same {w : World} {b j : Nat} {cs : Array Value} {t : TypeId} {fr : Nat × Nat} (h : w.heap[b]? = some (.cells cs t fr)) (u : Value) :
   (w.setCell ⟨b, j, none⟩ u).heap[b]? = some (.cells (cs.setIfInBounds j u) t fr) := by
 simp [World.setCell, Array.getElem?_modify, h]
theorem owns_form {w : World} {base : Nat} {e : TypeId} {size : Nat} {v : Value} {n : Nat} {xs : List Value} (h : w.ownsRow base e size v n xs) : ∃ ao cap, v = .slice ao n cap := by
 rcases h.2 with ⟨rfl, e⟩ | ⟨g, cap, _, rfl, _⟩
 · exact ⟨none, 0, by rw [e]⟩
 · exact ⟨_, cap, rfl⟩
theorem owns_zero {w : World} {base : Nat} {e : TypeId} {size : Nat} {v : Value} {n : Nat} {xs : List Value} (h : w.ownsRow base e size v n xs) : w.ownsRow 0 e size v n xs := by
 refine ⟨h.1, ?_⟩
 rcases h.2 with hn | ⟨g, cap, cur, rfl, hg, rest⟩
 · exact Or.inl hn
 · exact Or.inr ⟨g, cap, cur, rfl, by omega, rest⟩
structure Fr (F : List Nat) (w w' : World) : Prop where
 os : w'.os = w.os
 tape : w'.tape = w.tape
 output : w'.output = w.output
 size : w.heap.size ≤ w'.heap.size
 block : ∀ k, k < w.heap.size → k ∉ F → w'.heap[k]? = w.heap[k]?
def Gr (F F' : List Nat) (n : Nat) : Prop := ∀ k ∈ F', k ∈ F ∨ n ≤ k
theorem Fr.mono {F G : List Nat} {w w' : World} (h : Fr F w w') (hs : ∀ k ∈ F, k ∈ G) : Fr G w w' := ⟨h.os, h.tape, h.output, h.size, fun k hk hG => h.block k hk (fun hF => hG (hs k hF))⟩
theorem Fr.below {F : List Nat} {w w' : World} (h : Below w.heap.size w w') : Fr F w w' := ⟨h.os, h.tape, h.output, h.size, fun k hk _ => h.block k hk⟩
theorem Fr.setCell (w : World) (b j : Nat) (u : Value) : Fr [b] w (w.setCell ⟨b, j, none⟩ u) :=
 ⟨rfl, rfl, rfl, by simp [World.setCell], fun k _ hb => Below.heap_setCell _ _ _ _ (by simpa using hb)⟩
theorem Gr.refl (F : List Nat) (n : Nat) : Gr F F n := fun k hk => Or.inl hk
structure Comp where
 holds : World → Prop
 fp : List Nat
structure Later (w w' : World) : Prop where
 os : w'.os = w.os
 tape : w'.tape = w.tape
 output : w'.output = w.output
 size : w.heap.size ≤ w'.heap.size
def Comp.Good (c : Comp) : Prop := ∀ w w', c.holds w → Later w w' → (∀ k ∈ c.fp, w'.heap[k]? = w.heap[k]?) → c.holds w'
def Disj (F G : List Nat) : Prop := ∀ k ∈ F, k ∉ G
theorem Disj.symm {F G : List Nat} (h : Disj F G) : Disj G F := fun k hk hF => h k hF hk
def All : List Comp → World → Prop
 | [], _ => True
 | c :: cs, w => (c.Good ∧ c.holds w ∧ ∀ k ∈ c.fp, k < w.heap.size) ∧ (∀ d ∈ cs, Disj c.fp d.fp) ∧ All cs w
theorem All.mem {cs : List Comp} {w : World} (h : All cs w) {c : Comp} (hc : c ∈ cs) : c.Good ∧ c.holds w ∧ ∀ k ∈ c.fp, k < w.heap.size := by
 induction cs with
 | nil => cases hc
 | cons d cs ih =>
   rcases List.mem_cons.1 hc with rfl | hc
   · exact h.1
   · exact ih h.2.2 hc
theorem All.kept {cs : List Comp} {w w' : World} {F : List Nat} (h : All cs w) (hf : Fr F w w') (hd : ∀ d ∈ cs, Disj F d.fp) : All cs w' := by
 induction cs with
 | nil => exact trivial
 | cons c cs ih =>
   obtain ⟨⟨hg, hh, hlt⟩, hdj, hr⟩ := h
   refine ⟨⟨hg, hg w w' hh ⟨hf.os, hf.tape, hf.output, hf.size⟩ (fun k hk => hf.block k (hlt k hk) (fun hF => hd c (by simp) k hF hk)), fun k hk => Nat.lt_of_lt_of_le (hlt k hk) hf.size⟩, hdj, ih hr (fun d hd' => hd d (by simp [hd']))⟩
theorem All.turn {c c' : Comp} {cs : List Comp} {w w' : World} (h : All (c :: cs) w) (hf : Fr c.fp w w') (hg : c'.Good) (hh : c'.holds w') (hgr : Gr c.fp c'.fp w.heap.size) (hlt : ∀ k ∈ c'.fp, k < w'.heap.size) : All (c' :: cs) w' := by
 refine ⟨⟨hg, hh, hlt⟩, fun d hd k hk hkd => ?_, h.2.2.kept hf h.2.1⟩
 rcases hgr k hk with e | e
 · exact h.2.1 d hd k e hkd
 · have := (h.2.2.mem hd).2.2 k hkd; omega
theorem All.add {c : Comp} {cs : List Comp} {w w' : World} (h : All cs w) (hf : Fr [] w w') (hg : c.Good) (hh : c.holds w') (hnew : ∀ k ∈ c.fp, w.heap.size ≤ k ∧ k < w'.heap.size) : All (c :: cs) w' := by
 refine ⟨⟨hg, hh, fun k hk => (hnew k hk).2⟩, fun d hd k hk hkd => ?_, h.kept hf (fun d _ k hk => by cases hk)⟩
 have := (h.mem hd).2.2 k hkd
 have := (hnew k hk).1
 omega
theorem All.later {cs : List Comp} {w w' : World} (h : All cs w) (hb : Below w.heap.size w w') : All cs w' := h.kept (Fr.below (F := []) hb) (fun d _ k hk => by cases hk)
theorem All.swap {c d : Comp} {cs : List Comp} {w : World} (h : All (c :: d :: cs) w) : All (d :: c :: cs) w := by
 obtain ⟨h1, h2, h3, h4, h5⟩ := h
 refine ⟨h3, fun x hx => ?_, h1, fun x hx => h2 x (by simp [hx]), h5⟩
 rcases List.mem_cons.1 hx with rfl | hx
 · exact (h2 d (by simp)).symm
 · exact h4 x hx
theorem All.perm {cs ds : List Comp} {w : World} (p : cs.Perm ds) (h : All cs w) : All ds w := by
 induction p with
 | nil => exact h
 | cons x _ ih =>
   rename_i l1 l2 hp
   exact ⟨h.1, fun d hd => h.2.1 d (hp.mem_iff.2 hd), ih h.2.2⟩
 | swap x y l => exact h.swap
 | trans _ _ ih1 ih2 => exact ih2 (ih1 h)
theorem All.tail {c : Comp} {cs : List Comp} {w : World} (h : All (c :: cs) w) : All cs w := h.2.2
def inC (w0 : World) : Comp := ⟨fun w => Below w0.heap.size w0 w, List.range w0.heap.size⟩
theorem inC_good (w0 : World) : (inC w0).Good := by
 intro w w' h hs hb
 have h' : Below w0.heap.size w0 w := h
 exact ⟨hs.os.trans h'.os, hs.tape.trans h'.tape, hs.output.trans h'.output, Nat.le_trans h'.size hs.size, fun k hk => (hb k (List.mem_range.2 hk)).trans (h'.block k hk)⟩
theorem All.came (w : World) : All [inC w] w := ⟨⟨inC_good w, Below.refl _ _, fun k hk => List.mem_range.1 hk⟩, ⟨fun d hd => (by cases hd), trivial⟩⟩
theorem ba (w : World) (o : Obj) : Below w.heap.size w (w.alloc o) := (Below.refl _ _).alloc (Nat.le_refl _) _
theorem bdN (w : World) (q : Nat) : Below w.heap.size w (w.drewN q) := ⟨rfl, rfl, rfl, Nat.le_refl _, fun _ _ => rfl⟩
theorem bd (w : World) : Below w.heap.size w w.drew := ⟨rfl, rfl, rfl, Nat.le_refl _, fun _ _ => rfl⟩
theorem All.drew {cs : List Comp} {w : World} (h : All cs w) : All cs w.drew := h.later (bd w)
theorem All.alloc {cs : List Comp} {w : World} (h : All cs w) (o : Obj) : All cs (w.alloc o) := h.later (ba w o)
theorem All.into {cs : List Comp} {w w0 : World} (h : All cs w) (hin : inC w0 ∈ cs) : Below w0.heap.size w0 w := (h.mem hin).2.1
theorem grown_fr {w w1 : World} {row : Option Nat} (h : w.grownBy w1 row) : Fr row.toList w w1 :=
 ⟨h.os, h.tape, h.output, h.size, fun k hk hF => h.block k hk (fun e => hF (by simp [← e]))⟩
theorem cell_under {w w' : World} (hb : Below w.heap.size w w') {g j : Nat} (hg : g < w.heap.size) {u : Value} (h : w.cell? ⟨g, j, none⟩ = some u) : w'.cell? ⟨g, j, none⟩ = some u := by
 rw [← h]
 unfold World.cell?
 rw [hb.block g hg]
def blkC (g : Nat) (vs : List Value) (t : TypeId) : Comp := ⟨fun w => w.heap[g]? = some (.cells vs.toArray t (0, 0)), [g]⟩
theorem blkC_good (g : Nat) (vs : List Value) (t : TypeId) : (blkC g vs t).Good := fun w w' h _ hb => (hb g (by simp [blkC])).trans h
theorem All.addBlk {cs : List Comp} {w : World} (h : All cs w) (vs : List Value) (t : TypeId) : All (blkC w.heap.size vs t :: cs) (w.alloc (.cells vs.toArray t)) := by
 refine h.add (Fr.below (ba w _)) (blkC_good _ _ _) (heap_alloc_new w _) (fun k hk => ?_)
 have : k = w.heap.size := by simpa [blkC] using hk
 subst this
 exact ⟨Nat.le_refl _, by simp⟩
theorem All.setBlk {g : Nat} {vs : List Value} {t : TypeId} {cs : List Comp} {w : World} (h : All (blkC g vs t :: cs) w) (j : Nat) (u : Value) : All (blkC g (vs.set j u) t :: cs) (w.setCell ⟨g, j, none⟩ u) := by
 have hg : w.heap[g]? = some (.cells vs.toArray t (0, 0)) := h.1.2.1
 refine h.turn (Fr.setCell w g j u) (blkC_good _ _ _) ?_ (fun k hk => Or.inl hk) (fun k hk => ?_)
 · have := heap_setCell_same (j := j) hg u
   simpa [blkC] using this
 · have : k = g := by simpa [blkC] using hk
   subst this
   simpa [World.setCell] using h.1.2.2 k (by simp [blkC])
theorem All.blk {g : Nat} {vs : List Value} {t : TypeId} {cs : List Comp} {w : World} (h : All cs w) (hm : blkC g vs t ∈ cs) : w.heap[g]? = some (.cells vs.toArray t (0, 0)) := (h.mem hm).2.1
def ownC (e : TypeId) (v : Value) (vs : List Value) : Comp := ⟨fun w => w.ownsRow 0 e 1 v vs.length vs, v.ownBlock.toList⟩
theorem ownC_good (e : TypeId) (v : Value) (vs : List Value) : (ownC e v vs).Good := by
 intro w w' h hs hb
 exact ⟨h.1, by
   rcases h.2 with hn | ⟨g, cap, cur, rfl, hg, hgg, rest⟩
   · exact Or.inl hn
   · exact Or.inr ⟨g, cap, cur, rfl, hg, by rw [hb g (by simp [ownC, Value.ownBlock])]; exact hgg, rest⟩⟩
theorem All.addOwn {e : TypeId} {cs : List Comp} {w w' : World} {v : Value} {l : List Value} (h : All cs w) (hb : Below w.heap.size w w') (ho : w'.ownsRow w.heap.size e 1 v l.length l) : All (ownC e v l :: cs) w' := by
 refine h.add (Fr.below hb) (ownC_good e v l) (owns_zero ho) (fun k hk => ?_)
 have hk' : v.ownBlock = some k := by simpa [ownC] using hk
 exact World.ownsRow.lt ho k hk'
theorem All.addNil {e : TypeId} {cs : List Comp} {w : World} (h : All cs w) : All (ownC e (.slice none 0 0) [] :: cs) w :=
 ⟨⟨ownC_good _ _ _, ⟨by simp, Or.inl ⟨rfl, rfl⟩⟩, fun k hk => by simp [ownC, Value.ownBlock] at hk⟩, fun d hd k hk => by simp [ownC, Value.ownBlock] at hk, h⟩
theorem All.ownGrow {e : TypeId} {v v' : Value} {vs vs' : List Value} {cs : List Comp} {w w1 : World} {base : Nat} (h : All (ownC e v vs :: cs) w) (hown : w1.ownsRow base e 1 v' vs'.length vs') (hg : w.grownBy w1 v.ownBlock) (hat : v'.ownBlock = v.ownBlock ∨ v'.ownBlock = some w.heap.size) : All (ownC e v' vs' :: cs) w1 := by
 have ho' := owns_zero hown
 refine h.turn ((grown_fr hg).mono (fun k hk => by simpa [ownC] using hk)) (ownC_good _ _ _) ho' (fun k hk => ?_) (fun k hk => ?_)
 · have hk' : v'.ownBlock = some k := by simpa [ownC] using hk
   rcases hat with e1 | e1
   · exact Or.inl (by simp [ownC, ← e1, hk'])
   · rw [e1] at hk'; simp at hk'; exact Or.inr (by omega)
 · have hk' : v'.ownBlock = some k := by simpa [ownC] using hk
   exact (ho'.lt k hk').2
theorem owns_at {w : World} {base : Nat} {e : TypeId} {ao : Option Addr} {n c : Nat} {us : List Value} (h : w.ownsRow base e 1 (.slice ao n c) us.length us) {k : Nat} {u : Value} (hu : us[k]? = some u) : ∃ g, ao = some ⟨g, 0, none⟩ ∧ w.cell? ⟨g, k, none⟩ = some u ∧ w.frozen? ⟨g, k, none⟩ = false := by
 have hk := (List.getElem?_eq_some_iff.1 hu).1
 rcases h.2 with ⟨e, e2⟩ | ⟨g, cap, cur, e, _, hg, hn, hm, hcs, ht⟩
 · omega
 · simp only [Value.slice.injEq] at e
   refine ⟨g, e.1, ?_, free_at hg _⟩
   rw [cell_at hg, ← Array.getElem?_toList]
   rw [← ht, List.getElem?_take, if_pos (by omega)] at hu
   exact hu
theorem owns_len {w : World} {base : Nat} {e : TypeId} {ao : Option Addr} {n c : Nat} {us : List Value} (h : w.ownsRow base e 1 (.slice ao n c) us.length us) : n = us.length ∧ us.length ≤ c := by
 rcases h.2 with ⟨e, e2⟩ | ⟨g, cap, cur, e, _, hg, hn, hm, hcs, ht⟩
 · simp only [Value.slice.injEq] at e
   exact ⟨by omega, by omega⟩
 · simp only [Value.slice.injEq] at e
   exact ⟨e.2.1, by omega⟩
end Go.Proofs.YtfeppannfcbakaaGreatDoor

namespace Go.Proofs.YtfeppannfcbakaaGreatDoor
def bareN (n : Nat) : Bool := decide ((97 ≤ n ∧ n ≤ 122) ∨ (65 ≤ n ∧ n ≤ 90) ∨ (48 ≤ n ∧ n ≤ 57) ∨ n = 45 ∨ n = 95 ∨ n = 46 ∨ n = 47)
def prnN (n : Nat) : Bool := decide (32 ≤ n ∧ n ≤ 126)
def hexN (n : Nat) : Option Nat := if 48 ≤ n ∧ n ≤ 57 then some (n - 48) else if 97 ≤ n ∧ n ≤ 102 then some (n - 87) else none
theorem hexN_lt {n d : Nat} (h : hexN n = some d) : d < 16 := by
 unfold hexN at h
 split at h
 · simp only [Option.some.injEq] at h; omega
 · split at h
   · simp only [Option.some.injEq] at h; omega
   · simp at h
def isBareW (l : List UInt8) : Bool := decide (l ≠ [] ∧ ∀ b ∈ l, bareN b.toNat = true)
inductive St where
 | ahead
 | bare (w : List UInt8)
 | closed
 | quote (o : Nat) (w : List UInt8)
 | esc (o : Nat) (w : List UInt8) (e : Nat)
 | high (o : Nat) (w : List UInt8) (e : Nat)
 | low (o : Nat) (w : List UInt8) (e d : Nat)
abbrev Ws := List (List UInt8)
inductive Out where
 | go (s : St) (ws : Ws)
 | bad (k : Nat)
def stepW (s : St) (ws : Ws) (k : Nat) (b : UInt8) : Out :=
 match s with
 | .ahead => if b.toNat = 32 then .go .ahead ws else if b.toNat = 34 then .go (.quote k []) ws else if bareN b.toNat = true then .go (.bare [b]) ws else .bad k
 | .bare w => if bareN b.toNat = true then .go (.bare (w ++ [b])) ws else if b.toNat = 32 then .go .ahead (ws ++ [w]) else .bad k
 | .closed => if b.toNat = 32 then .go .ahead ws else .bad k
 | .quote o w => if b.toNat = 34 then (if isBareW w = true then .bad o else .go .closed (ws ++ [w])) else if b.toNat = 92 then .go (.esc o w k) ws else if prnN b.toNat = true then .go (.quote o (w ++ [b])) ws else .bad k
 | .esc o w e => if b.toNat = 120 then .go (.high o w e) ws else if b.toNat = 34 ∨ b.toNat = 92 then .go (.quote o (w ++ [b])) ws else .bad k
 | .high o w e => match hexN b.toNat with
   | none => .bad k
   | some d => .go (.low o w e d) ws
 | .low o w e h => match hexN b.toNat with
   | none => .bad k
   | some d => if prnN (16 * h + d) = true then .bad e else .go (.quote o (w ++ [UInt8.ofNat (16 * h + d)])) ws
inductive Ans where
 | ok (ws : Ws)
 | byte (k : Nat)
 | stop (n : Nat)
 | long
def finW (s : St) (ws : Ws) (n : Nat) : Ans :=
 match s with
 | .ahead => .ok ws
 | .bare w => .ok (ws ++ [w])
 | .closed => .ok ws
 | _ => .stop n
def runW : St → Ws → Nat → List UInt8 → Ans
 | s, ws, k, [] => finW s ws k
 | s, ws, k, b :: t => match stepW s ws k b with
   | .go s' ws' => runW s' ws' (k + 1) t
   | .bad j => .byte j
def splitW (l : List UInt8) : Ans := if 8192 < l.length then .long else runW .ahead [] 0 l
def Ans.ws : Ans → Ws
 | .ok ws => ws
 | _ => []
def Ans.at : Ans → Nat
 | .byte k => k
 | .stop n => n
 | _ => 0
def Ans.err : Ans → Nat
 | .ok _ => 0
 | .byte _ => 161
 | .stop _ => 162
 | .long => 160
theorem runW_go {s s' : St} {ws ws' : Ws} {k : Nat} {l : List UInt8} (hk : k < l.length) (h : stepW s ws k (l.getD k 0) = .go s' ws') : runW s ws k (l.drop k) = runW s' ws' (k + 1) (l.drop (k + 1)) := by
 have e : l.drop k = l.getD k 0 :: l.drop (k + 1) := by
   rw [List.drop_eq_getElem_cons hk]
   simp [List.getD, hk]
 rw [e, runW, h]
theorem runW_bad {s : St} {ws : Ws} {k j : Nat} {l : List UInt8} (hk : k < l.length) (h : stepW s ws k (l.getD k 0) = .bad j) : runW s ws k (l.drop k) = .byte j := by
 have e : l.drop k = l.getD k 0 :: l.drop (k + 1) := by
   rw [List.drop_eq_getElem_cons hk]
   simp [List.getD, hk]
 rw [e, runW, h]
theorem runW_end {s : St} {ws : Ws} {k : Nat} {l : List UInt8} (hk : l.length ≤ k) : runW s ws k (l.drop k) = finW s ws k := by
 rw [List.drop_eq_nil_of_le hk, runW]
def St.held : St → Nat
 | .ahead => 0
 | .bare w => w.length + 1
 | .closed => 0
 | .quote _ w => w.length + 1
 | .esc _ w _ => w.length + 1
 | .high _ w _ => w.length + 1
 | .low _ w _ _ => w.length + 1
def wsz (ws : Ws) : Nat := ws.length + (ws.map List.length).sum
theorem wsz_snoc (ws : Ws) (w : List UInt8) : wsz (ws ++ [w]) = wsz ws + w.length + 1 := by simp [wsz]; omega
theorem stepW_held {s s' : St} {ws ws' : Ws} {k : Nat} {b : UInt8} (h : stepW s ws k b = .go s' ws') : s'.held + wsz ws' ≤ s.held + wsz ws + 2 := by
 cases s <;> simp only [stepW] at h <;> (repeat' split at h) <;> simp only [Out.go.injEq, reduceCtorEq] at h <;> obtain ⟨rfl, rfl⟩ := h <;> simp only [St.held, wsz_snoc, List.length_append, List.length_cons, List.length_nil] <;> omega
end Go.Proofs.YtfeppannfcbakaaGreatDoor

namespace Go.Proofs.YtfeppannfcbakaaGreatDoor
open Go.RowKit
set_option linter.unusedVariables false
theorem Tryz.info5 : (Tryz.prog.info? 5).map (fun i => (i.zero, i.size, i.bytes)) = some (some (.int .u8 0), 1, 1) := by kernel_rfl
def cellsB (l : List UInt8) : List Value := l.map fun b => Value.int .u8 (b.toNat : Int)
theorem cellsB_length (l : List UInt8) : (cellsB l).length = l.length := by simp [cellsB]
theorem cellsB_append (a b : List UInt8) : cellsB (a ++ b) = cellsB a ++ cellsB b := by simp [cellsB]
theorem cellsB_one (l : List UInt8) : ∀ u ∈ cellsB l, u.oneCell' = true := by
 intro u hu
 obtain ⟨_, _, rfl⟩ := List.mem_map.1 hu
 rfl
def Reads (w : World) (s : Value) (l : List UInt8) : Prop :=
 ∃ ao c, s = .slice ao l.length c ∧ l.length ≤ c ∧ ((l = [] ∧ (ao = none → c = 0)) ∨ ∃ g o, ao = some ⟨g, o, none⟩ ∧ g < w.heap.size ∧ ∀ j u, (cellsB l)[j]? = some u → w.cell? ⟨g, o + j, none⟩ = some u)
theorem Reads.form {w : World} {s : Value} {l : List UInt8} (h : Reads w s l) : ∃ ao c, s = .slice ao l.length c := by
 obtain ⟨ao, c, rfl, _⟩ := h
 exact ⟨ao, c, rfl⟩
theorem Reads.at_u8 {w : World} {ao : Option Addr} {n c : Nat} {l : List UInt8} (h : Reads w (.slice ao n c) l) (k : Nat) (hk : k < l.length) : ∃ g o, ao = some ⟨g, o, none⟩ ∧ w.cell? ⟨g, o + k, none⟩ = some (.int .u8 ((l.getD k 0).toNat : Int)) := by
 obtain ⟨ao', c', e, hc, hcase⟩ := h
 simp only [Value.slice.injEq] at e
 obtain ⟨rfl, rfl, rfl⟩ := e
 rcases hcase with ⟨rfl, _⟩ | ⟨g, o, rfl, hg, hcell⟩
 · simp at hk
 · exact ⟨g, o, rfl, hcell k _ (by simp [cellsB, hk, List.getD])⟩
theorem Reads.kept {w w' : World} {s : Value} {l : List UInt8} (h : Reads w s l) (hsz : w.heap.size ≤ w'.heap.size) (hb : ∀ k, k < w.heap.size → s.ownBlock = some k → w'.heap[k]? = w.heap[k]?) : Reads w' s l := by
 obtain ⟨ao, c, rfl, hc, hcase⟩ := h
 refine ⟨ao, c, rfl, hc, ?_⟩
 rcases hcase with hn | ⟨g, o, rfl, hg, hcell⟩
 · exact Or.inl hn
 · refine Or.inr ⟨g, o, rfl, Nat.lt_of_lt_of_le hg hsz, fun j u hu => ?_⟩
   rw [World.cell?_of_block (w := w) (hb g hg rfl)]
   exact hcell j u hu
theorem Reads.below {w w' : World} {s : Value} {l : List UInt8} (h : Reads w s l) (hw : Below w.heap.size w w') : Reads w' s l :=
 h.kept hw.size fun k hk _ => hw.block k hk
theorem Reads.drewN {w : World} {s : Value} {l : List UInt8} (h : Reads w s l) (q : Nat) : Reads (w.drewN q) s l := h.kept (Nat.le_refl _) (fun _ _ _ => rfl)
theorem Reads.of_owns {w : World} {base : Nat} {s : Value} {l : List UInt8} (h : w.ownsRow base 5 1 s l.length (cellsB l)) : Reads w s l := by
 have hc := fun g => h.cells (g := g)
 rcases h.2 with ⟨rfl, e⟩ | ⟨g, cap, cur, rfl, hg, hgg, hn, _⟩
 · exact ⟨none, 0, by rw [e], by omega, Or.inl ⟨List.eq_nil_of_length_eq_zero e, fun _ => rfl⟩⟩
 · refine ⟨_, cap, rfl, hn, Or.inr ⟨g, 0, rfl, (Array.getElem?_eq_some_iff.1 hgg).1, fun j u hu => ?_⟩⟩
   have := hc g rfl j u hu
   simpa [Addr.add_lit] using this
theorem u8_eq {a b : UInt8} (h : a.toNat = b.toNat) : a = b := UInt8.toNat_inj.1 h
theorem differ_at {l t : List UInt8} (hl : l.length = t.length) (h : l ≠ t) : ∃ k, k < l.length ∧ l.getD k 0 ≠ t.getD k 0 := by
 apply Classical.byContradiction
 intro hn
 apply h
 apply List.ext_getElem hl
 intro i h1 h2
 apply Classical.byContradiction
 intro hne
 exact hn ⟨i, h1, by simpa [List.getD, List.getElem?_eq_getElem h1, List.getElem?_eq_getElem h2] using hne⟩
theorem Tryz.info9 : (Tryz.prog.info? 9).map (fun i => (i.zero, i.size, i.bytes)) = some (some (.string ⟨#[]⟩), 1, 16) := by kernel_rfl
def Txts (w : World) (s : Value) (l : List ByteArray) : Prop :=
 ∃ ao c, s = .slice ao l.length c ∧ l.length ≤ c ∧ (l = [] ∨ ∃ g o, ao = some ⟨g, o, none⟩ ∧ g < w.heap.size ∧ ∀ j (h : j < l.length), w.cell? ⟨g, o + j, none⟩ = some (.string l[j]))
theorem Txts.later {w w' : World} {s : Value} {l : List ByteArray} (h : Txts w s l) (hb : Below w.heap.size w w') : Txts w' s l := by
 obtain ⟨ao, c, e, hc, hx⟩ := h
 refine ⟨ao, c, e, hc, hx.imp id ?_⟩
 rintro ⟨g, o, ea, hg, hcell⟩
 exact ⟨g, o, ea, Nat.lt_of_lt_of_le hg hb.size, fun j hj => cell_under hb hg (hcell j hj)⟩
theorem Txts.alloc {w : World} {s : Value} {l : List ByteArray} (h : Txts w s l) (o : Obj) : Txts (w.alloc o) s l := h.later (ba w o)
theorem Txts.form {w : World} {s : Value} {l : List ByteArray} (h : Txts w s l) : ∃ ao c, s = .slice ao l.length c := by obtain ⟨ao, c, e, _⟩ := h; exact ⟨ao, c, e⟩
theorem Txts.at {w : World} {ao : Option Addr} {n c : Nat} {l : List ByteArray} (h : Txts w (.slice ao n c) l) {j : Nat} (hj : j < l.length) : ∃ g o, ao = some ⟨g, o, none⟩ ∧ g < w.heap.size ∧ w.cell? ⟨g, o + j, none⟩ = some (.string l[j]) := by
 obtain ⟨ao', c', e, hc, hx⟩ := h
 simp only [Value.slice.injEq] at e
 obtain ⟨rfl, _, _⟩ := e
 rcases hx with rfl | ⟨g, o, ea, hg, hcell⟩
 · simp at hj
 · exact ⟨g, o, ea, hg, hcell j hj⟩
theorem srcNil {w : World} {size : Nat} {tx e' : TypeId} (hk : Tryz.prog.underlying tx = some (.slice e')) (ao : Option Addr) (c : Nat) : Src Tryz.prog size tx (.slice ao 0 c) 0 [] w := by
 cases ao with
 | none => exact Src.ofNil w hk c
 | some a => exact Src.ofSlice w hk a 0 c [] (by simp) (fun j u h => by simp at h) (fun u h => by simp at h)
theorem wpList_append_run {P : Program} {w : World} {ops : Array Oper} {rest : List Oper} {o : Oper} {a : Act} {Q : Exit → Act → World → Prop} (hgd : o.guard = none) (s x : Operand) (t : TypeId)
   (ho : o.op = .call { callee := .builtin .append, args := #[s, x], argTypes := #[t, t] }) (v1 v2 v' : Value) (w' : World) (hs : a.eval s = v1) (hx : a.eval x = v2)
   (hr : (Builtin.append_ #[t, t] o.type #[v1, v2]).run P w = .ok v' w') (h : wpList P ops Q rest (a.put o.dst v') w') : wpList P ops Q (o :: rest) a w := by
 refine wpList_plain hgd fun K hK => ?_
 unfold Oper.wp execOp
 simp only [ho, resolve, invoke, builtin, Sem.run_bind, Sem.run_pure, Result.andThen_ok, List.map_toArray, List.map_cons, List.map_nil, hs, hx, hr]
 exact hK _ _ h
theorem one_new {x : Value} {H : Nat} {W : World} (hc : W.cell? ⟨H, 0, none⟩ = some x) : ∀ j u, [x][j]? = some u → W.cell? ((⟨H, 0, none⟩ : Addr).add j) = some u := by
 intro j u hu
 rw [Addr.add_lit]
 match j with
 | 0 => simp only [List.getElem?_cons_zero, Option.some.injEq] at hu; subst hu; simpa using hc
 | j + 1 => simp at hu
theorem one_cell {x : Value} (h : x.oneCell' = true) : ∀ u ∈ [x], u.oneCell' = true := by
 intro u hu
 simp only [List.mem_cons, List.not_mem_nil, or_false] at hu
 subst hu
 exact h
theorem app1 {W : World} {e t : TypeId} {i : TypeInfo} {z v x : Value} {bytes H : Nat} {us : List Value} {cs : List Comp} (hu : Tryz.prog.underlying t = some (.slice e)) (hi : Tryz.prog.info? e = some i) (hz : i.zero = some z) (hsize : i.size = 1) (hby : i.bytes = bytes) (hzs : z.cells.size = 1)
   (A : All (ownC e v us :: cs) W) (hc : W.cell? ⟨H, 0, none⟩ = some x) (h1 : x.oneCell' = true) (hl : us.length + 1 ≤ maxLen) (hl2 : (us.length + 1) * bytes ≤ 140737488355328) :
   ∃ ao c w', (Builtin.append_ #[t, t] t #[v, .slice (some ⟨H, 0, none⟩) 1 1]).run Tryz.prog W = .ok (.slice ao (us.length + 1) c) w' ∧ All (ownC e (.slice ao (us.length + 1) c) (us ++ [x]) :: cs) w' := by
 have hown : W.ownsRow 0 e 1 v us.length us := A.1.2.1
 obtain ⟨v', w', hr, h2, h3, h4, h5⟩ := run_append_own_at (P := Tryz.prog) W 0 t t e i z 1 bytes hu hi hz hsize hby hzs (by decide) v us.length us hown ⟨H, 0, none⟩ 1 1 [x] (by simp) (one_new hc) (one_cell h1) hl hl2 (by omega)
 obtain ⟨ao', c', rfl⟩ := owns_form h2
 refine ⟨ao', c', w', hr, A.ownGrow (vs' := us ++ [x]) (base := 0) ?_ h3 h5⟩
 rw [List.length_append]
 exact h2
set_option linter.unusedVariables false
theorem puS : (∀ (a : Act) (v : Value) (d : Tmp), a.put (some d) v = { tmps := a.tmps.setIfInBounds d v, defers := a.defers }) ∧ (∀ (a : Act) (v : Value), a.put none v = a) ∧ (∀ (l : List Value) (i : Nat) (a : Value), l.toArray.setIfInBounds i a = (l.set i a).toArray) ∧ (∀ (x : Value) (xs : List Value) (a : Value), (x :: xs).set 0 a = a :: xs) ∧ ∀ (x : Value) (xs : List Value) (i : Nat) (a : Value), (x :: xs).set (i + 1) a = x :: xs.set i a := ⟨fun _ _ _ => rfl, fun _ _ => rfl, fun _ _ _ => List.setIfInBounds_toArray .., fun _ _ _ => rfl, fun _ _ _ _ => rfl⟩
abbrev ptr (B : Nat) : Value := .pointer (some ⟨B, 0, none⟩)
def txW (ws : Ws) : List Value := ws.map fun w => Value.string ⟨w.toArray⟩
theorem txW_length (ws : Ws) : (txW ws).length = ws.length := by simp [txW]
theorem txW_snoc (ws : Ws) (w : List UInt8) : txW (ws ++ [w]) = txW ws ++ [.string ⟨w.toArray⟩] := by simp [txW]
theorem app_byte {W : World} {v : Value} {l : List UInt8} {cs : List Comp} (A : All (ownC 5 v (cellsB l) :: cs) W) (b : UInt8) (hl : l.length + 1 ≤ 140737488355328) :
   ∃ ao c w', (Builtin.append_ #[32, 32] 32 #[v, .slice (some ⟨W.heap.size, 0, none⟩) 1 1]).run Tryz.prog (W.alloc (.cells #[.int .u8 (b.toNat : Int)] 5)) = .ok (.slice ao (l.length + 1) c) w' ∧ All (ownC 5 (.slice ao (l.length + 1) c) (cellsB (l ++ [b])) :: cs) w' := by
 obtain ⟨i1, hi1, hz0, hz1, hz2⟩ := info_parts Tryz.info5
 obtain ⟨ao, c, w', hr, A2⟩ := app1 (H := W.heap.size) (x := .int .u8 (b.toNat : Int)) Tryz.underlying32 hi1 hz0 hz1 hz2 rfl (A.alloc (.cells #[.int .u8 (b.toNat : Int)] 5)) (by rw [cell_at (heap_alloc_new W _)]; rfl) rfl (by rw [cellsB_length]; unfold maxLen; omega) (by rw [cellsB_length]; omega)
 rw [cellsB_length] at hr A2
 refine ⟨ao, c, w', hr, ?_⟩
 rw [cellsB_append]
 exact A2
theorem app_txt {W : World} {v : Value} {l : Ws} {cs : List Comp} (A : All (ownC 9 v (txW l) :: cs) W) (x : List UInt8) (hl : l.length + 1 ≤ 1000000000000) :
   ∃ ao c w', (Builtin.append_ #[27, 27] 27 #[v, .slice (some ⟨W.heap.size, 0, none⟩) 1 1]).run Tryz.prog (W.alloc (.cells #[.string ⟨x.toArray⟩] 9)) = .ok (.slice ao (l.length + 1) c) w' ∧ All (ownC 9 (.slice ao (l.length + 1) c) (txW (l ++ [x])) :: cs) w' := by
 obtain ⟨i1, hi1, hz0, hz1, hz2⟩ := info_parts Tryz.info9
 obtain ⟨ao, c, w', hr, A2⟩ := app1 (H := W.heap.size) (x := .string ⟨x.toArray⟩) Tryz.underlying27 hi1 hz0 hz1 hz2 rfl (A.alloc (.cells #[.string ⟨x.toArray⟩] 9)) (by rw [cell_at (heap_alloc_new W _)]; rfl) rfl (by rw [txW_length]; unfold maxLen; omega) (by rw [txW_length]; omega)
 rw [txW_length] at hr A2
 refine ⟨ao, c, w', hr, ?_⟩
 rw [txW_snoc]
 exact A2
theorem foldl_push (l : List UInt8) : ∀ s : ByteArray, (l.map fun b => (b.toNat : Int)).foldl (fun r n => r.push (UInt8.ofNat n.toNat)) s = ⟨s.data ++ l.toArray⟩ := by
 induction l with
 | nil => intro s; simp
 | cons c r ih =>
   intro s
   simp only [List.map_cons, List.foldl_cons]
   rw [ih]
   simp [ByteArray.push]
theorem conv_string {w : World} {ao : Option Addr} {n c : Nat} {l : List UInt8} (h : Reads w (.slice ao n c) l) : (convert 32 9 (.slice ao n c)).run Tryz.prog w = .ok (.string ⟨l.toArray⟩) w := by
 obtain ⟨ao, c, e, hc, hcase⟩ := h
 simp only [Value.slice.injEq] at e
 obtain ⟨rfl, rfl, rfl⟩ := e
 rw [run_convert_bytes_string w 32 9 5 _ l.length _ Tryz.underlying32 Tryz.underlying5 Tryz.underlying9]
 rcases hcase with ⟨rfl, h0⟩ | ⟨g, o, rfl, hg, hcell⟩
 · rcases ao with _ | a
   · obtain rfl := h0 rfl; rfl
   ·
     have hl : (loadCells a 0).run Tryz.prog w = .ok #[] w := by
       have := run_loadCells_list (P := Tryz.prog) w a [] (by simp)
       simpa using this
     rw [List.length_nil, run_bytesToString w a 0 c [] (by simpa using hl)]
     rfl
 · have hl : (loadCells ⟨g, o, none⟩ l.length).run Tryz.prog w = .ok (((l.map fun b => (b.toNat : Int)).map (Value.int .u8)).toArray) w := by
     have := run_loadCells_list (P := Tryz.prog) w ⟨g, o, none⟩ (cellsB l) (by simpa [Addr.add_lit] using hcell)
     rw [cellsB_length] at this
     simpa [cellsB, Function.comp_def] using this
   rw [run_bytesToString w ⟨g, o, none⟩ l.length _ _ hl, foldl_push]
   simp
theorem step_append_run {P : Program} {w : World} {ops : Array Oper} {o : Oper} {a : Act} {K : Act → World → Prop} {Q : Exit → Act → World → Prop} {E : Prop} (hgd : o.guard = none) (s x : Operand) (t : TypeId)
   (ho : o.op = .call { callee := .builtin .append, args := #[s, x], argTypes := #[t, t] }) (v1 v2 v' : Value) (w' : World) (hs : a.eval s = v1) (hx : a.eval x = v2)
   (hr : (Builtin.append_ #[t, t] o.type #[v1, v2]).run P w = .ok v' w') (h : K (a.put o.dst v') w') :
   if Region.wanted o (yielded ops a.tmps) = true then Oper.wp P o a w K Q else E := by
 have hw : Region.wanted o (yielded ops a.tmps) = true := by simp [Region.wanted, hgd]
 rw [if_pos hw]
 unfold Oper.wp execOp
 simp only [ho, resolve, invoke, builtin, Sem.run_bind, Sem.run_pure, Result.andThen_ok, List.map_toArray, List.map_cons, List.map_nil, hs, hx, hr]
 exact h
theorem reads_own {e : Value} {l : List UInt8} {cs : List Comp} {w : World} (h : All (ownC 5 e (cellsB l) :: cs) w) : Reads w e l := by
 have := h.1.2.1
 exact Reads.of_owns (base := 0) (by rw [← cellsB_length l]; exact this)
theorem idx_at {l : List UInt8} {k : Nat} (hk : k < l.length) (W : World) : (Instr.index 9 (.string ⟨l.toArray⟩) (.int .i64 (k : Int))).run Tryz.prog W = .ok (.int .u8 ((l.getD k 0).toNat : Int)) W := by
 have hs : (⟨l.toArray⟩ : ByteArray).size = l.length := by simp [ByteArray.size]
 rw [run_index_string W 9 _ _ _ Tryz.underlying9, dif_pos ⟨by omega, by rw [hs]; omega⟩]
 congr 3
 have h1 : ((k : Int).toNat) = k := by simp
 simp only [h1]
 have : (⟨l.toArray⟩ : ByteArray)[k]'(by rw [hs]; omega) = l[k] := by
   show (ByteArray.get _ _ _) = _
   simp [ByteArray.get]
 rw [this]
 simp [List.getD, hk]
theorem take_snocB {x : List UInt8} {k : Nat} (hk : k < x.length) : x.take (k + 1) = x.take k ++ [x.getD k 0] := by
 rw [List.take_add_one, List.getElem?_eq_getElem hk]
 simp [List.getD, hk]
def Rt (w : World) (s : Value) (l : Ws) : Prop :=
 ∃ ao c, s = .slice ao l.length c ∧ l.length ≤ c ∧ (l = [] ∨ ∃ g o, ao = some ⟨g, o, none⟩ ∧ g < w.heap.size ∧ ∀ j (h : j < l.length), w.cell? ⟨g, o + j, none⟩ = some (.string ⟨l[j].toArray⟩))
theorem Rt.later {w w' : World} {s : Value} {l : Ws} (h : Rt w s l) (hb : Below w.heap.size w w') : Rt w' s l := by
 obtain ⟨ao, c, e, hc, hx⟩ := h
 refine ⟨ao, c, e, hc, hx.imp id ?_⟩
 rintro ⟨g, o, ea, hg, hcell⟩
 exact ⟨g, o, ea, Nat.lt_of_lt_of_le hg hb.size, fun j hj => cell_under hb hg (hcell j hj)⟩
theorem Rt.form {w : World} {s : Value} {l : Ws} (h : Rt w s l) : ∃ ao c, s = .slice ao l.length c := by obtain ⟨ao, c, e, _⟩ := h; exact ⟨ao, c, e⟩
theorem Rt.at {w : World} {ao : Option Addr} {n c : Nat} {l : Ws} (h : Rt w (.slice ao n c) l) {j : Nat} (hj : j < l.length) : ∃ g o, ao = some ⟨g, o, none⟩ ∧ g < w.heap.size ∧ w.cell? ⟨g, o + j, none⟩ = some (.string ⟨(l.getD j []).toArray⟩) := by
 obtain ⟨ao', c', e, hc, hx⟩ := h
 simp only [Value.slice.injEq] at e
 obtain ⟨rfl, _, _⟩ := e
 rcases hx with rfl | ⟨g, o, ea, hg, hcell⟩
 · simp at hj
 · refine ⟨g, o, ea, hg, ?_⟩
   rw [hcell j hj]
   simp [List.getD, hj]
theorem Rt.of_owns {w : World} {base : Nat} {s : Value} {l : Ws} (h : w.ownsRow base 9 1 s (txW l).length (txW l)) : Rt w s l := by
 obtain ⟨ao, c, rfl⟩ := owns_form h
 have hl := owns_len h
 rw [txW_length] at hl ⊢
 refine ⟨ao, c, rfl, hl.2, ?_⟩
 by_cases h0 : l = []
 · exact Or.inl h0
 · have h1 : 0 < l.length := List.length_pos_iff.2 h0
   obtain ⟨g, rfl, hc, _⟩ := owns_at h (k := 0) (u := .string ⟨l[0].toArray⟩) (by simp [txW, h1])
   refine Or.inr ⟨g, 0, rfl, World.block_lt_of_cell? w _ hc, fun j hj => ?_⟩
   obtain ⟨g', e, hc', _⟩ := owns_at h (k := j) (u := .string ⟨l[j].toArray⟩) (by simp [txW, hj])
   simp only [Option.some.injEq, Addr.mk.injEq, and_true] at e
   subst e
   simpa using hc'
theorem rt_own {v : Value} {l : Ws} {cs : List Comp} {w : World} (h : All (ownC 9 v (txW l) :: cs) w) : Rt w v l := Rt.of_owns (base := 0) h.1.2.1
theorem rt_mem {v : Value} {l : Ws} {cs : List Comp} {w : World} (h : All cs w) (hm : ownC 9 v (txW l) ∈ cs) : Rt w v l := Rt.of_owns (base := 0) (h.mem hm).2.1
theorem ba_ne {x y : List UInt8} : ((⟨x.toArray⟩ : ByteArray).toList == (⟨y.toArray⟩ : ByteArray).toList) = decide (x = y) := by
 rw [Lib.toList_data, Lib.toList_data, Bool.eq_iff_iff]
 simp
theorem own9 {v : Value} {l : Ws} {cs : List Comp} {w : World} (h : All (ownC 9 v (txW l) :: cs) w) : ∃ ao c, v = .slice ao l.length c := by
 have := owns_form (h.1.2.1 : w.ownsRow 0 9 1 v _ _)
 rw [txW_length] at this
 exact this
end Go.Proofs.YtfeppannfcbakaaGreatDoor

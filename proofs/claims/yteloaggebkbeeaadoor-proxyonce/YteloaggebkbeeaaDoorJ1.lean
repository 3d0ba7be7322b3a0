import Derived.Test.YteloaggebkbeeaaDoorRows
import Derived.WalkKit
import Derived.WalkSpells
import Derived.WalkLawsBesides
import Derived.Maps.AppendAt
import Derived.Laws.AppendOwnNone
namespace Go.Proofs.YteloaggebkbeeaaDoor
open Go.RowKit
set_option linter.unusedVariables false

/-- Bytes as cells. -/
def cellsB (l : List UInt8) : List Value := l.map fun b => Value.int .u8 (b.toNat : Int)

theorem cellsB_length (l : List UInt8) : (cellsB l).length = l.length := by simp [cellsB]
theorem cellsB_append (a b : List UInt8) : cellsB (a ++ b) = cellsB a ++ cellsB b := by simp [cellsB]
theorem cellsB_one (l : List UInt8) : ∀ u ∈ cellsB l, u.oneCell' = true := by
  intro u hu
  obtain ⟨_, _, rfl⟩ := List.mem_map.1 hu
  rfl

/-- A slice of bytes, read in a world. -/
def Reads (w : World) (s : Value) (l : List UInt8) : Prop :=
  ∃ ao c, s = .slice ao l.length c ∧ l.length ≤ c ∧ ((ao = none ∧ l = [] ∧ c = 0) ∨ ∃ g o, ao = some ⟨g, o, none⟩ ∧ g < w.heap.size ∧ ∀ j u, (cellsB l)[j]? = some u → w.cell? ⟨g, o + j, none⟩ = some u)

/-- What a step of a writer may turn. -/
structure WStep (b : Nat) (w : World) (v : Value) (w' : World) (v' : Value) : Prop where
  os : w'.os = w.os
  tape : w'.tape = w.tape
  output : w'.output = w.output
  size : w.heap.size ≤ w'.heap.size
  block : ∀ k, k < w.heap.size → k ≠ b → some k ≠ v.ownBlock → w'.heap[k]? = w.heap[k]?
  own : ∀ k, v'.ownBlock = some k → v.ownBlock = some k ∨ w.heap.size ≤ k

theorem WStep.refl (b : Nat) (w : World) (v : Value) : WStep b w v w v := ⟨rfl, rfl, rfl, Nat.le_refl _, fun _ _ _ _ => rfl, fun _ h => Or.inl h⟩

theorem WStep.trans {b : Nat} {w w' w'' : World} {v v' v'' : Value} (h : WStep b w v w' v') (k : WStep b w' v' w'' v'') : WStep b w v w'' v'' := by
  refine ⟨k.os.trans h.os, k.tape.trans h.tape, k.output.trans h.output, Nat.le_trans h.size k.size, ?_, ?_⟩
  · intro i hi hb hv
    rw [k.block i (Nat.lt_of_lt_of_le hi h.size) hb ?_, h.block i hi hb hv]
    intro x
    rcases h.own i x.symm with e | e
    · exact hv e.symm
    · omega
  · intro q e
    rcases k.own q e with e | e
    · exact h.own q e
    · exact Or.inr (Nat.le_trans h.size e)

/-- A block of two or three cells, by its cells. -/
theorem cell_at {w : World} {b : Nat} {cs : Array Value} {t : TypeId} {fr : Nat × Nat} (h : w.heap[b]? = some (.cells cs t fr)) (j : Nat) : w.cell? ⟨b, j, none⟩ = cs[j]? := by
  simp [World.cell?, h]

theorem free_at {w : World} {b : Nat} {cs : Array Value} {t : TypeId} (h : w.heap[b]? = some (.cells cs t (0, 0))) (j : Nat) : w.frozen? ⟨b, j, none⟩ = false := by
  simp [World.frozen?, h]

theorem heap_setCell_same {w : World} {b j : Nat} {cs : Array Value} {t : TypeId} {fr : Nat × Nat} (h : w.heap[b]? = some (.cells cs t fr)) (u : Value) :
    (w.setCell ⟨b, j, none⟩ u).heap[b]? = some (.cells (cs.setIfInBounds j u) t fr) := by
  simp [World.setCell, Array.getElem?_modify, h]

def lenS : Option (List UInt8) → Nat
  | some bs => bs.length
  | none => 0

def addS (st : Option (List UInt8)) (l : List UInt8) : Option (List UInt8) := st.map (· ++ l)

theorem addS_nil (st : Option (List UInt8)) : addS st [] = st := by cases st <;> simp [addS]
theorem addS_addS (st : Option (List UInt8)) (a b : List UInt8) : addS (addS st a) b = addS st (a ++ b) := by cases st <;> simp [addS]
theorem lenS_addS (st : Option (List UInt8)) (a : List UInt8) : lenS (addS st a) ≤ lenS st + a.length := by cases st <;> simp [addS, lenS]

theorem WStep.alloc {b : Nat} {w : World} {v : Value} (o : Obj) : WStep b w v (w.alloc o) v :=
  ⟨rfl, rfl, rfl, by simp, fun k hk _ _ => Below.heap_alloc _ _ _ hk, fun _ h => Or.inl h⟩

theorem Reads.one (w : World) (c : UInt8) (x : Int) (hx : x = (c.toNat : Int)) : Reads (w.alloc (.cells #[.int .u8 x] 5)) (.slice (some ⟨w.heap.size, 0, none⟩) 1 1) [c] := by
  subst hx
  refine ⟨_, _, rfl, by simp, Or.inr ⟨_, _, rfl, by simp, ?_⟩⟩
  intro j u hj
  match j, hj with
  | 0, hj =>
    simp [cellsB] at hj
    subst hj
    simp

theorem Reads.block {w : World} {s : Value} {l : List UInt8} (h : Reads w s l) : ∀ k, s.ownBlock = some k → k < w.heap.size := by
  obtain ⟨ao, c, rfl, _, ⟨rfl, _, _⟩ | ⟨g, o, rfl, hg, _⟩⟩ := h
  · intro k hk; simp [Value.ownBlock] at hk
  · intro k hk; simp [Value.ownBlock] at hk; omega

/-- Bytes that are read stay, where their block stays. -/
theorem Reads.kept {w w' : World} {s : Value} {l : List UInt8} (h : Reads w s l) (hsz : w.heap.size ≤ w'.heap.size) (hb : ∀ k, s.ownBlock = some k → w'.heap[k]? = w.heap[k]?) : Reads w' s l := by
  obtain ⟨ao, c, rfl, hc, hcase⟩ := h
  refine ⟨ao, c, rfl, hc, ?_⟩
  rcases hcase with hn | ⟨g, o, rfl, hg, hcell⟩
  · exact Or.inl hn
  · refine Or.inr ⟨g, o, rfl, Nat.lt_of_lt_of_le hg hsz, fun j u hu => ?_⟩
    rw [World.cell?_of_block (w := w) (hb g rfl)]
    exact hcell j u hu

theorem Reads.step {w w' : World} {s : Value} {l : List UInt8} {b : Nat} {v v' : Value} (h : Reads w s l) (hw : WStep b w v w' v') (hs : ∀ k, s.ownBlock = some k → k ≠ b ∧ v.ownBlock ≠ some k) : Reads w' s l :=
  h.kept hw.size fun k hk => hw.block k (h.block k hk) (hs k hk).1 (fun e => (hs k hk).2 e.symm)

theorem Reads.below {w w' : World} {s : Value} {l : List UInt8} (h : Reads w s l) (hw : Below w.heap.size w w') : Reads w' s l :=
  h.kept hw.size fun k hk => hw.block k (h.block k hk)

theorem Reads.of_owns {w : World} {base : Nat} {s : Value} {l : List UInt8} (h : w.ownsRow base 5 1 s l.length (cellsB l)) : Reads w s l := by
  have hc := fun g => h.cells (g := g)
  rcases h.2 with ⟨rfl, e⟩ | ⟨g, cap, cur, rfl, hg, hgg, hn, _⟩
  · exact ⟨none, 0, by rw [e], by omega, Or.inl ⟨rfl, List.eq_nil_of_length_eq_zero e, rfl⟩⟩
  · refine ⟨_, cap, rfl, hn, Or.inr ⟨g, 0, rfl, (Array.getElem?_eq_some_iff.1 hgg).1, fun j u hu => ?_⟩⟩
    have := hc g rfl j u hu
    simpa [Addr.add_lit] using this

theorem WStep.of_below {b : Nat} {w w' : World} {v : Value} (h : Below w.heap.size w w') : WStep b w v w' v :=
  ⟨h.os, h.tape, h.output, h.size, fun k hk _ _ => h.block k hk, fun _ h => Or.inl h⟩

end Go.Proofs.YteloaggebkbeeaaDoor

namespace Go.Proofs.YteloaggebkbeeaaDoor
open Go.RowKit
set_option linter.unusedVariables false

theorem Tryd.info5 : (Tryd.prog.info? 5).map (fun i => (i.zero, i.size, i.bytes)) = some (some (.int .u8 0), 1, 1) := by kernel_rfl

end Go.Proofs.YteloaggebkbeeaaDoor

import Derived.Test.YtafickhhdemjnaaGreatDoorJ24
namespace Go.Proofs.YtafickhhdemjnaaGreatDoor
open Go.RowKit
set_option linter.unusedVariables false
set_option maxRecDepth 100000

theorem perm_by (n : Nat) (ls : List (List Comp)) (σ : List Nat) (hn : ls.length = n) (h : σ.Perm (List.range n)) : ls.flatten.Perm (σ.map fun i => ls.getD i []).flatten := by
  subst hn
  have h1 : ls = (List.range ls.length).map fun i => ls.getD i [] := by
    refine List.ext_getElem (by simp) fun i h1 h2 => ?_
    simp [List.getD, h1]
  have h2 := (h.map fun i => ls.getD i []).flatten
  rw [← h1] at h2
  exact h2.symm
theorem cell_in {P o : Nat} {C : List Value} {t : TypeId} {cs : List Comp} {w : World} {v : Value} (A : All cs w) (hm : blkC P C t ∈ cs) (h : C[o]? = some v) : w.cell? ⟨P, o, none⟩ = some v := by
  rw [cell_at (A.blk hm), List.getElem?_toArray]; exact h
theorem free_in {P : Nat} {C : List Value} {t : TypeId} {cs : List Comp} {w : World} (A : All cs w) (hm : blkC P C t ∈ cs) (o : Nat) : w.frozen? ⟨P, o, none⟩ = false := free_at (A.blk hm) o
theorem lt_in {P : Nat} {C : List Value} {t : TypeId} {cs : List Comp} {w : World} (A : All cs w) (hm : blkC P C t ∈ cs) : P < w.heap.size := (A.mem hm).2.2 P (by simp [blkC])
theorem All.in2 {x : Comp} {a b cs : List Comp} {w : World} (h : All (x :: (a ++ (b ++ cs))) w) : All (a ++ (b ++ (x :: cs))) w := h.perm (List.perm_middle.symm.trans (List.perm_middle.symm.append_left a))
theorem All.out2 {x : Comp} {a b cs : List Comp} {w : World} (h : All (a ++ (b ++ (x :: cs))) w) : All (x :: (a ++ (b ++ cs))) w := h.perm (List.perm_middle.symm.trans (List.perm_middle.symm.append_left a)).symm
theorem readsS_mem {v : Value} {l : List UInt8} {cs : List Comp} {w : World} (h : All cs w) (hm : ownC 5 v (cellsB l) ∈ cs) : ReadsS6 w v l := by
  have h1 := (h.mem hm).2.1
  have h2 : w.ownsRow 0 5 1 v (cellsB l).length (cellsB l) := h1
  rw [cellsB_length] at h2
  exact ReadsS6.of_owns h2
theorem txts_mem {v : Value} {l : List ByteArray} {cs : List Comp} {w : World} (h : All cs w) (hm : ownC 9 v (cellsT l) ∈ cs) : Txts w v l := by
  have h1 : w.ownsRow 0 9 1 v (cellsT l).length (cellsT l) := (h.mem hm).2.1
  have e : (cellsT l).length = l.length := by simp [cellsT]
  rw [e] at h1
  exact Txts.of_owns (base := 0) h1
theorem Pl.off {p : Pl} (h : p.ok) (ho : p.on = false) : p.n = 0 ∧ p.a = 0 ∧ p.c = 0 ∧ p.k = 0 ∧ p.l = [] := by
  rcases h with ⟨_, h⟩ | ⟨h, _⟩
  · exact h
  · rw [ho] at h; cases h
theorem Pl.onM {p : Pl} (h : p.ok) (ho : p.on = true) : may p.n p.a p.c p.k p.l = true := by
  rcases h with ⟨h, _⟩ | ⟨_, h⟩
  · rw [ho] at h; cases h
  · exact h
/-- A client's row, told. -/
theorem Last_row {g i : Nat} {ps : List Pl} {p : Pl} {cs : List Comp} {w : World} (h : All (rollL g ps ++ cs) w) (hp : ps[i]? = some p) (hi : i < 8) (ho : p.ok) : Calls Tryz.prog 51 #[.pointer (some ⟨g, 0, none⟩), .int .i64 (i : Int)] w fun e w' => ∃ ao c', e = .returned (.tuple #[rowV p.n p.a p.c p.k (.slice ao p.l.length c'), .bool p.on]) ∧ All (ownC 9 (.slice ao p.l.length c') (cellsT p.l) :: (rollL g ps ++ cs)) w' := by
  cases hon : p.on with
  | true =>
    have hm := Pl.onM ho hon
    have hl := (may_parts hm).2.2.2.2.2.2.2.2.2.1
    exact last_on h hp hi hon (by omega)
  | false =>
    obtain ⟨e1, e2, e3, e4, e5⟩ := Pl.off ho hon
    refine (last_off h (fun w' hw => ?_)).mono ?_
    · have := has_anyR7 (hw.blk (g := g) (vs := flatP ps) (t := 148) (by simp [rollL])) hp hi
      rw [hon] at this
      exact this
    · rintro e w' ⟨rfl, A⟩
      rw [e1, e2, e3, e4, e5]
      exact ⟨none, 0, rfl, All.addNil (e := 9) A⟩
end Go.Proofs.YtafickhhdemjnaaGreatDoor

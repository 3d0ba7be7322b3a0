import Derived.Test.YtaomhahmpbfjhaaWrite
import Derived.RangeFuncOwn
namespace Go.Proofs.Ytaomhahmpbfjhaa
open Go.RowKit
set_option linter.unusedVariables false

/-- Blocks that are never written again. -/
abbrev Pool := List (Nat × Obj)
def poolC (P : Pool) : Comp := ⟨fun w => ∀ x ∈ P, w.heap[x.1]? = some x.2 ∧ x.2.isCells = true, P.map (·.1)⟩
theorem poolC_good (P : Pool) : (poolC P).Good := fun w w' h _ hb x hx => ⟨(hb x.1 (List.mem_map.2 ⟨x, hx, rfl⟩)).trans (h x hx).1, (h x hx).2⟩
theorem All.poolIn {P : Pool} {cs : List Comp} {w : World} (h : All (poolC P :: cs) w) {x : Nat × Obj} (hx : x ∈ P) : w.heap[x.1]? = some x.2 := (h.1.2.1 x hx).1
/-- The pool's blocks hold cells. -/
theorem poolC_cells {P : Pool} {W : World} (h : (poolC P).holds W) : ∀ k ∈ (poolC P).fp, ∃ o : Obj, W.heap[k]? = some o ∧ o.isCells = true := by
  intro k hk
  obtain ⟨x, hx, rfl⟩ := List.mem_map.1 hk
  exact ⟨_, (h x hx).1, (h x hx).2⟩

/-- Of two neighbouring parts the pool takes the second in. -/
theorem All.poolTake {P : Pool} {g : Nat} {vs : List Value} {t : TypeId} {cs : List Comp} {w : World} (h : All (blkC g vs t :: poolC P :: cs) w) : All (poolC ((g, .cells vs.toArray t (0, 0)) :: P) :: cs) w := by
  obtain ⟨⟨g1, h1, l1⟩, d1, ⟨g2, h2, l2⟩, d2, h3⟩ := h
  refine ⟨⟨poolC_good _, fun x hx => ?_, fun k hk => ?_⟩, fun d hd k hk => ?_, h3⟩
  · rcases List.mem_cons.1 hx with rfl | hx
    · exact ⟨h1, rfl⟩
    · exact h2 x hx
  · simp only [poolC, List.map_cons, List.mem_cons] at hk
    rcases hk with rfl | hk
    · exact l1 k (by simp [blkC])
    · exact l2 k hk
  · simp only [poolC, List.map_cons, List.mem_cons] at hk
    rcases hk with rfl | hk
    · exact d1 d (by simp [hd]) k (by simp [blkC])
    · exact d2 d hd k hk

/-- Bytes in the pool. -/
def DatP (P : Pool) (v : Value) (l : List UInt8) : Prop :=
  (v = .slice none 0 0 ∧ l = []) ∨ ∃ g cap cur, v = .slice (some ⟨g, 0, none⟩) l.length cap ∧ l.length ≤ cap ∧ (g, Obj.cells cur 5 (0, 0)) ∈ P ∧ cur.toList.take l.length = cellsB l

theorem DatP.mono {P Q : Pool} {v : Value} {l : List UInt8} (h : DatP P v l) (hs : ∀ x ∈ P, x ∈ Q) : DatP Q v l := by
  rcases h with h | ⟨g, cap, cur, e, hc, hm, ht⟩
  · exact Or.inl h
  · exact Or.inr ⟨g, cap, cur, e, hc, hs _ hm, ht⟩

theorem DatP.form {P : Pool} {v : Value} {l : List UInt8} (h : DatP P v l) : ∃ ao n c, v = .slice ao n c := by
  rcases h with ⟨rfl, _⟩ | ⟨g, cap, cur, e, _⟩
  · exact ⟨_, _, _, rfl⟩
  · exact ⟨_, _, _, e⟩

theorem DatP.reads {P : Pool} {v : Value} {l : List UInt8} {w : World} (h : DatP P v l) (hp : ∀ x ∈ P, w.heap[x.1]? = some x.2) : Reads w v l := by
  rcases h with ⟨rfl, rfl⟩ | ⟨g, cap, cur, rfl, hc, hm, ht⟩
  · exact Reads.nil w
  · have hg := hp _ hm
    refine ⟨_, cap, rfl, hc, Or.inr ⟨g, 0, rfl, (Array.getElem?_eq_some_iff.1 hg).1, fun j u hu => ?_⟩⟩
    rw [cell_at hg, Nat.zero_add, ← Array.getElem?_toList]
    have hj := (List.getElem?_eq_some_iff.1 hu).1
    rw [cellsB_length] at hj
    rw [← ht, List.getElem?_take, if_pos hj] at hu
    exact hu

/-- What a clone made goes into the pool. -/
theorem All.poolRow {P : Pool} {cs : List Comp} {w w' : World} {v : Value} {l : List UInt8} (h : All (poolC P :: cs) w) (ho : w'.ownsRow w.heap.size 5 1 v l.length (cellsB l)) (hb : Below w.heap.size w w') : ∃ Q, All (poolC Q :: cs) w' ∧ DatP Q v l ∧ ∀ x ∈ P, x ∈ Q := by
  have h' := h.later hb
  rcases ho.2 with ⟨rfl, e⟩ | ⟨g, cap, cur, rfl, hg, hgg, hn, hm, hcs, ht⟩
  · exact ⟨P, h', Or.inl ⟨rfl, List.eq_nil_of_length_eq_zero e⟩, fun x hx => hx⟩
  · refine ⟨(g, .cells cur 5 (0, 0)) :: P, ?_, Or.inr ⟨g, cap, cur, rfl, hn, by simp, by simpa using ht⟩, fun x hx => by simp [hx]⟩
    have hadd : All (blkC g cur.toList 5 :: poolC P :: cs) w' := h.add (Fr.below hb) (blkC_good _ _ _) (by simpa [blkC] using hgg) (fun k hk => by
      have : k = g := by simpa [blkC] using hk
      subst this
      exact ⟨hg, (Array.getElem?_eq_some_iff.1 hgg).1⟩)
    simpa using hadd.poolTake

/-- A tree's pieces in the pool. -/
structure Tr (P : Pool) (ps : List Nat) (N : Nodes) : Prop where
  len : ps.length = 16
  pc : ∀ j p, ps[j]? = some p → ∃ vs : List Value, (p, Obj.cells vs.toArray 90 (0, 0)) ∈ P ∧ vs.length = 16 ∧ ∀ i, i < 8 → vs[2 * i]? = some (.int .i64 ((N (8 * j + i)).1 : Int)) ∧ vs[2 * i + 1]? = some (N (8 * j + i)).2.1
  dat : ∀ k, k < 128 → DatP P (N k).2.1 (N k).2.2

def ptr (p : Nat) : Value := .pointer (some ⟨p, 0, none⟩)
/-- The cells of a tree, behind what lies ahead of it. -/
def treeL (pre : List Value) (lv : Nat) (ps : List Nat) : List Value := pre ++ .int .i64 (lv : Int) :: ps.map ptr

theorem treeL_leaves (pre : List Value) (lv : Nat) (ps : List Nat) : (treeL pre lv ps)[pre.length]? = some (.int .i64 (lv : Int)) := by simp [treeL]
theorem treeL_ptr {pre : List Value} {lv : Nat} {ps : List Nat} {j p : Nat} (h : ps[j]? = some p) : (treeL pre lv ps)[pre.length + 1 + j]? = some (.pointer (some ⟨p, 0, none⟩)) := by
  unfold treeL
  rw [List.getElem?_append_right (by omega), show pre.length + 1 + j - pre.length = j + 1 by omega, List.getElem?_cons_succ, List.getElem?_map, h]
  rfl
theorem treeL_set {pre : List Value} {lv : Nat} {ps : List Nat} {j p : Nat} : (treeL pre lv ps).set (pre.length + 1 + j) (.pointer (some ⟨p, 0, none⟩)) = treeL pre lv (ps.set j p) := by
  unfold treeL
  rw [List.set_append_right _ _ (by omega), show pre.length + 1 + j - pre.length = j + 1 by omega, List.set_cons_succ, List.map_set]
  rfl

theorem Tr.get {P : Pool} {ps : List Nat} {N : Nodes} (h : Tr P ps N) {k : Nat} (hk : k < 128) : ∃ p vs, ps[k / 8]? = some p ∧ (p, Obj.cells (List.toArray vs) 90 (0, 0)) ∈ P ∧ Shape vs ∧ vs[k % 8 * 2]? = some (.int .i64 ((N k).1 : Int)) ∧ vs[k % 8 * 2 + 1]? = some (N k).2.1 ∧ ∀ i, i < 8 → vs[2 * i]? = some (.int .i64 ((N (8 * (k / 8) + i)).1 : Int)) ∧ vs[2 * i + 1]? = some (N (8 * (k / 8) + i)).2.1 := by
  have hl := h.len
  obtain ⟨p, hp⟩ : ∃ p, ps[k / 8]? = some p := ⟨_, List.getElem?_eq_getElem (by omega)⟩
  obtain ⟨vs, hm, hvl, hv⟩ := h.pc _ _ hp
  have := hv (k % 8) (by omega)
  rw [show 8 * (k / 8) + k % 8 = k by omega, show 2 * (k % 8) = k % 8 * 2 by omega] at this
  refine ⟨p, vs, hp, hm, ⟨hvl, fun i hi => ?_⟩, this.1, this.2, hv⟩
  obtain ⟨ao, n, c, e⟩ := (h.dat (8 * (k / 8) + i) (by omega)).form
  exact ⟨_, ao, n, c, (hv i hi).1, by rw [(hv i hi).2, e]⟩

theorem Tr.view {P : Pool} {ps : List Nat} {N : Nodes} (h : Tr P ps N) {w : World} {g lv : Nat} {pre : List Value} {t : TypeId} (hp : ∀ x ∈ P, w.heap[x.1]? = some x.2) (hg : w.heap[g]? = some (.cells (treeL pre lv ps).toArray t (0, 0))) : View w g pre.length lv N := by
  refine ⟨by rw [cell_at hg]; simpa using treeL_leaves pre lv ps, fun k hk => ?_⟩
  obtain ⟨p, vs, e1, e2, _, e3, e4, _⟩ := h.get hk
  have hb := hp _ e2
  exact ⟨p, by rw [cell_at hg]; simpa using treeL_ptr e1, by rw [cell_at hb]; simpa using e3, by rw [cell_at hb]; simpa using e4, (h.dat k hk).reads hp⟩

/-- One node is another. -/
def upd (N : Nodes) (k : Nat) (x : Nat × Value × List UInt8) : Nodes := fun j => if j = k then x else N j

theorem Tr.upd {P : Pool} {ps : List Nat} {N : Nodes} (h : Tr P ps N) {k q : Nat} (hk : k < 128) {Q : Pool} (hs : ∀ x ∈ P, x ∈ Q) {vs : List Value} (hvl : vs.length = 16) (hv : ∀ i, i < 8 → vs[2 * i]? = some (.int .i64 ((N (8 * (k / 8) + i)).1 : Int)) ∧ vs[2 * i + 1]? = some (N (8 * (k / 8) + i)).2.1)
    {a : Nat} {v : Value} {l : List UInt8} (hq : (q, Obj.cells ((vs.set (k % 8 * 2) (.int .i64 (a : Int))).set (k % 8 * 2 + 1) v).toArray 90 (0, 0)) ∈ Q) (hd : DatP Q v l) : Tr Q (ps.set (k / 8) q) (upd N k (a, v, l)) := by
  refine ⟨by simp [h.len], fun j p hj => ?_, fun j hj => ?_⟩
  · by_cases e : j = k / 8
    · subst e
      have hlt : k / 8 < ps.length := by have := h.len; omega
      rw [List.getElem?_set_self hlt] at hj
      cases hj
      refine ⟨_, hq, by simp [hvl], fun i hi => ?_⟩
      obtain ⟨h1, h2⟩ := hv i hi
      by_cases e2 : i = k % 8
      · subst e2
        have e3 : 8 * (k / 8) + k % 8 = k := by omega
        rw [e3]
        simp only [Go.Proofs.Ytaomhahmpbfjhaa.upd, if_true]
        constructor
        · rw [List.getElem?_set_ne (by omega), show 2 * (k % 8) = k % 8 * 2 by omega, List.getElem?_set_self (by omega)]
        · rw [show 2 * (k % 8) + 1 = k % 8 * 2 + 1 by omega, List.getElem?_set_self (by simp; omega)]
      · have e3 : ¬ 8 * (k / 8) + i = k := by omega
        simp only [Go.Proofs.Ytaomhahmpbfjhaa.upd, if_neg e3]
        constructor
        · rw [List.getElem?_set_ne (by omega), List.getElem?_set_ne (by omega)]; exact h1
        · rw [List.getElem?_set_ne (by omega), List.getElem?_set_ne (by omega)]; exact h2
    · rw [List.getElem?_set_ne (fun e' => e e'.symm)] at hj
      obtain ⟨ws, hm, hl, hw⟩ := h.pc j p hj
      refine ⟨ws, hs _ hm, hl, fun i hi => ?_⟩
      have e3 : ¬ 8 * j + i = k := by omega
      simp only [Go.Proofs.Ytaomhahmpbfjhaa.upd, if_neg e3]
      exact hw i hi
  · by_cases e : j = k
    · subst e
      simp only [Go.Proofs.Ytaomhahmpbfjhaa.upd, if_true]
      exact hd
    · simp only [Go.Proofs.Ytaomhahmpbfjhaa.upd, if_neg e]
      exact (h.dat j hj).mono hs

theorem Tr.mono {P Q : Pool} {ps : List Nat} {N : Nodes} (h : Tr P ps N) (hs : ∀ x ∈ P, x ∈ Q) : Tr Q ps N :=
  ⟨h.len, fun j p hj => by obtain ⟨vs, hm, r⟩ := h.pc j p hj; exact ⟨vs, hs _ hm, r⟩, fun k hk => (h.dat k hk).mono hs⟩

/-- write, in parts. -/
theorem write_all {w : World} {g k lv : Nat} {pre : List Value} {ps : List Nat} {N : Nodes} {P : Pool} {t : TypeId} {cs : List Comp} {a : Nat} {v : Value} {l : List UInt8} (hA : All (poolC P :: blkC g (treeL pre lv ps) t :: cs) w) (hT : Tr P ps N) (hk : k < 128) (hd : DatP P v l) :
    Calls Try.prog 55 #[.pointer (some ⟨g, pre.length, none⟩), .int .i64 (k : Int), .agg #[.int .i64 (a : Int), v]] w fun e w' => (∃ v, e = .returned v) ∧ ∃ Q qs, All (poolC Q :: blkC g (treeL pre lv qs) t :: cs) w' ∧ Tr Q qs (upd N k (a, v, l)) ∧ ∀ x ∈ P, x ∈ Q := by
  obtain ⟨p, vs, e1, e2, hsh, e3, e4, hv⟩ := hT.get hk
  have hg : w.heap[g]? = some (.cells (treeL pre lv ps).toArray t (0, 0)) := hA.blk (by simp)
  obtain ⟨ao, n, c, rfl⟩ := hd.form
  refine (write_any (p := p) (vs := vs) hk (Array.getElem?_eq_some_iff.1 hg).1 (by rw [cell_at hg]; simpa using treeL_ptr e1) (free_at hg _) (hA.poolIn e2) hsh).mono ?_
  rintro e w' ⟨hr, rfl⟩
  refine ⟨hr, ?_⟩
  have h1 := (hA.swap.setBlk (pre.length + 1 + k / 8) (.pointer (some ⟨w.heap.size + 1, 0, none⟩)))
  rw [treeL_set] at h1
  have h2 := (h1.alloc (.cells #[.int .i64 (a : Int), .slice ao n c] 82)).addBlk ((vs.set (k % 8 * 2) (.int .i64 (a : Int))).set (k % 8 * 2 + 1) (.slice ao n c)) 90
  have hsz : ((w.setCell ⟨g, pre.length + 1 + k / 8, none⟩ (.pointer (some ⟨w.heap.size + 1, 0, none⟩))).alloc (.cells #[.int .i64 (a : Int), .slice ao n c] 82)).heap.size = w.heap.size + 1 := by simp [World.setCell]
  rw [hsz] at h2
  have h3 := (h2.perm (List.Perm.cons _ (List.Perm.swap _ _ _))).poolTake
  exact ⟨_, _, h3, hT.upd hk (fun x hx => by simp [hx]) hsh.1 hv (by simp) (hd.mono (fun x hx => by simp [hx])), fun x hx => by simp [hx]⟩

end Go.Proofs.Ytaomhahmpbfjhaa

import Derived.Test.YtdndfbgjaadbmaaOneLaw
namespace Go.Proofs.Ytdndfbgjaadbmaa
open Go.RowKit
set_option linter.unusedVariables false

theorem Try.info35 : (Try.prog.info? 35).map (fun i => (i.zero, i.size, i.bytes)) = some (some (.agg #[.int .i64 0, .int .i64 0, .bool false, .string ⟨#[]⟩]), 4, 40) := by kernel_rfl

/-- Whole numbers in memory. -/
def KindsAt (w : World) (s : Value) (ks : List Int) : Prop :=
  ∃ ao c, s = .slice ao ks.length c ∧ (ks = [] ∨ ∃ g o, ao = some ⟨g, o, none⟩ ∧ g < w.heap.size ∧ ∀ i x, ks[i]? = some x → w.cell? ⟨g, o + i, none⟩ = some (.int .i64 x))

theorem owns_kept {w w' : World} {base : Nat} {e : TypeId} {size : Nat} {v : Value} {n : Nat} {xs : List Value} (h : w.ownsRow base e size v n xs) (hb : ∀ g, v.ownBlock = some g → w'.heap[g]? = w.heap[g]?) : w'.ownsRow base e size v n xs := by
  refine ⟨h.1, ?_⟩
  rcases h.2 with hn | ⟨g, cap, cur, rfl, hg, hgg, rest⟩
  · exact Or.inl hn
  · exact Or.inr ⟨g, cap, cur, rfl, hg, by rw [hb g rfl]; exact hgg, rest⟩

def cellsI (its : List It) : List Value := its.flatMap It.cells

theorem cellsI_length (its : List It) : (cellsI its).length = its.length * 4 := by
  induction its with
  | nil => rfl
  | cons i r ih =>
    simp only [cellsI, List.flatMap_cons, List.length_append, List.length_cons, It.cells, List.length_nil] at ih ⊢
    omega

theorem cellsI_at (its : List It) (i j : Nat) (x : It) (hx : its[i]? = some x) (hj : j < 4) : (cellsI its)[i * 4 + j]? = x.cells[j]? := by
  induction its generalizing i with
  | nil => simp at hx
  | cons y r ih =>
    have e : cellsI (y :: r) = y.cells ++ cellsI r := rfl
    have hl : y.cells.length = 4 := rfl
    rw [e]
    cases i with
    | zero =>
      simp at hx
      subst hx
      rw [Nat.zero_mul, Nat.zero_add, List.getElem?_append_left (by omega)]
    | succ i =>
      simp at hx
      rw [List.getElem?_append_right (by omega), hl, ← ih i hx]
      congr 1
      omega

/-- The items that were gathered, as a list in memory. -/
theorem ItemsAt.of_owns {w : World} {base : Nat} {v : Value} {its : List It} (h : w.ownsRow base 35 4 v its.length (cellsI its)) : ItemsAt w v its := by
  have hc := fun g => World.ownsRow.cells h (g := g)
  have hlt := fun g => World.ownsRow.lt h g
  rcases h.2 with ⟨rfl, e⟩ | ⟨g, cap, cur, rfl, hg, hgg, hn, _⟩
  · exact ⟨none, 0, by rw [e], Or.inl (List.eq_nil_of_length_eq_zero e)⟩
  · refine ⟨_, cap, rfl, Or.inr ⟨g, 0, rfl, (hlt g rfl).2, fun i x hx => ?_⟩⟩
    have q := fun j (hj : j < 4) u (hu : x.cells[j]? = some u) => hc g rfl (i * 4 + j) u (by rw [cellsI_at its i j x hx hj]; exact hu)
    have q0 := q 0 (by omega) _ rfl
    have q1 := q 1 (by omega) _ rfl
    have q2 := q 2 (by omega) _ rfl
    have q3 := q 3 (by omega) _ rfl
    simp only [Addr.add_lit, Nat.zero_add, Nat.add_zero] at q0 q1 q2 q3 ⊢
    exact ⟨q0, q1, q2, q3⟩

def sumS (its : List It) : Nat := (its.map fun i => i.s.size).sum

theorem sizeI_sum (its : List It) : sizeI its = sumS its + 10 * its.length := by
  induction its with
  | nil => rfl
  | cons i r ih =>
    simp only [sizeI, sumS, List.map_cons, List.sum_cons, List.length_cons] at ih ⊢
    omega

theorem rightI_id (y : It) (hk : 1 ≤ y.kind ∧ y.kind ≤ 5) (hn : y.kind = 1 → 0 ≤ y.n) : rightI y = y := by
  obtain ⟨k, n, v, s⟩ := y
  simp only at hk hn
  have h1 : ¬ (k < 1 ∨ 5 < k) := by omega
  have h2 : ¬ (k = 1 ∧ n < 0) := fun ⟨a, b⟩ => by have := hn a; omega
  simp [rightI, h1, h2]

theorem encI_s (y : It) (h : y.kind = 1 ∨ y.kind = 2 ∨ y.kind = 3 → y.s.size = 0) : y.s.size ≤ (encI y).length := by
  have e : y.s.data.toList.length = y.s.size := rfl
  unfold encI
  split
  · rw [h (by omega)]; omega
  · split
    · rw [h (by omega)]; omega
    · split
      · rw [h (by omega)]; omega
      · rw [List.length_append]; omega

theorem gotR_s (kind : Int) (hk : 1 ≤ kind ∧ kind ≤ 5) (rs : List UInt8) : (gotR kind rs).1.s.size ≤ (encI (gotR kind rs).1).length := by
  apply encI_s
  rcases (show kind = 1 ∨ kind = 2 ∨ kind = 3 ∨ kind = 4 ∨ kind = 5 by omega) with rfl | rfl | rfl | rfl | rfl
  · intro _; rfl
  · intro _; rfl
  · intro _; rfl
  · intro h; simp [gotR] at h
  · intro h; simp [gotR] at h

theorem encI_pos (y : It) : 0 < (encI y).length := by
  have h : ∀ n, 0 < (enc 9 n).length := by
    intro n
    unfold enc
    split <;> simp
  unfold encI
  split
  · exact h _
  · split
    · exact h _
    · split
      · simp
      · have := h y.s.size
        rw [List.length_append]; omega

/-- The loop of the law: what is known of the items that were read; those that lie in memory. -/
structure OneRel (w wr : World) (data : List UInt8) (b : Nat) (D : Option Nat) (rv iv : Value) (jts its : List It) (rs : List UInt8) (place : Nat) (err : Int) : Prop where
  rd : Rd wr b D rv rs place err
  own : wr.ownsRow (w.heap.size + 1) 35 4 iv jts.length (cellsI jts)
  apart : ∀ g, iv.ownBlock = some g → g ≠ b ∧ D ≠ some g
  ok : ∀ x ∈ its, x.Ok ∧ rightI x = x
  eq : err = 0 → data = encAll its ++ rs
  sum : sumS its + rs.length ≤ data.length
  plc : place + rs.length ≤ data.length
  below : Below w.heap.size w wr
  new : w.heap.size ≤ b

theorem OneRel.later {w wr w2 : World} {data : List UInt8} {b : Nat} {D : Option Nat} {rv iv : Value} {jts its : List It} {rs : List UInt8} {place : Nat} {err : Int} (h : OneRel w wr data b D rv iv jts its rs place err) (hb : Below wr.heap.size wr w2) : OneRel w w2 data b D rv iv jts its rs place err :=
  ⟨h.rd.below hb, owns_kept h.own (fun g hg => hb.block g (World.ownsRow.lt h.own g hg).2), h.apart, h.ok, h.eq, h.sum, h.plc, h.below.trans (hb.mono h.below.size), h.new⟩

theorem OneRel.stored {w wr : World} {data : List UInt8} {b : Nat} {D : Option Nat} {rv iv : Value} {jts its : List It} {rs : List UInt8} {place : Nat} {err : Int} (h : OneRel w wr data b D rv iv jts its rs place err) {T : Nat} (hb : b < T) (hD : ∀ k, D = some k → k < T) (hi : ∀ g, iv.ownBlock = some g → g < T) (hw : w.heap.size ≤ T) (j : Nat) (u : Value) : OneRel w (wr.setCell ⟨T, j, none⟩ u) data b D rv iv jts its rs place err :=
  ⟨h.rd.stored hb hD j u, owns_kept h.own (fun g hg => Below.heap_setCell _ _ _ _ (by have := hi g hg; simp only; omega)), h.apart, h.ok, h.eq, h.sum, h.plc, h.below.setCell hw u, h.new⟩

/-- An item is read. -/
theorem OneRel.read {w wr w2 : World} {data : List UInt8} {b : Nat} {D : Option Nat} {rv iv rv' : Value} {jts its : List It} {rs : List UInt8} {place : Nat} {err : Int} (h : OneRel w wr data b D rv iv jts its rs place err) (kind : Int) (hk : 1 ≤ kind ∧ kind ≤ 5) (hlen : data.length ≤ 1099511627776) (ho : Only b wr w2)
    (hr : Rd w2 b D rv' (aft rs place err (gotR kind rs).2.1 (gotR kind rs).2.2).1 (aft rs place err (gotR kind rs).2.1 (gotR kind rs).2.2).2.1 (aft rs place err (gotR kind rs).2.1 (gotR kind rs).2.2).2.2) :
    OneRel w w2 data b D rv' iv jts (its ++ [(gotR kind rs).1]) (aft rs place err (gotR kind rs).2.1 (gotR kind rs).2.2).1 (aft rs place err (gotR kind rs).2.1 (gotR kind rs).2.2).2.1 (aft rs place err (gotR kind rs).2.1 (gotR kind rs).2.2).2.2 := by
  have hsum := h.sum
  have hplc := h.plc
  have G := gotR_inv kind hk rs (by omega)
  have GS := gotR_s kind hk rs
  have hpos := encI_pos (gotR kind rs).1
  have hbr := h.rd.broken
  have own : w2.ownsRow (w.heap.size + 1) 35 4 iv jts.length (cellsI jts) := owns_kept h.own (fun g hg => ho.block g (World.ownsRow.lt h.own g hg).2 (h.apart g hg).1)
  have bel := below_of_only h.below ho h.new
  have hok : ∀ x ∈ its ++ [(gotR kind rs).1], x.Ok ∧ rightI x = x := by
    intro x hx
    rcases List.mem_append.1 hx with hx | hx
    · exact h.ok x hx
    · simp at hx
      subst hx
      exact ⟨G.1, rightI_id _ (by rw [G.2.1]; exact hk) (fun e => G.2.2.1 (by rw [← G.2.1]; exact e))⟩
  have esum : sumS (its ++ [(gotR kind rs).1]) = sumS its + (gotR kind rs).1.s.size := by simp [sumS]
  have eenc : encAll (its ++ [(gotR kind rs).1]) = encAll its ++ encI (gotR kind rs).1 := by simp [encAll]
  have heq := h.eq
  have hap := h.apart
  have hnew := h.new
  clear h ho
  generalize gotR kind rs = r at *
  obtain ⟨y, size, e⟩ := r
  simp only at *
  by_cases he : e = 0
  · subst he
    obtain ⟨e1, e2⟩ := G.2.2.2.1 rfl
    have ea : aft rs place err size 0 = (rs.drop size, place + size, err) := by simp [aft]
    rw [ea] at hr ⊢
    have hrl : rs.length = (encI y).length + (rs.drop size).length := by
      have := congrArg List.length e2
      rwa [List.length_append] at this
    have he0 : err = 0 := by
      by_cases h0 : err = 0
      · exact h0
      · have := hbr h0
        rw [this] at hrl
        simp at hrl
        omega
    refine ⟨hr, own, hap, hok, fun _ => ?_, ?_, ?_, bel, hnew⟩
    · rw [eenc, List.append_assoc, ← e2]; exact heq he0
    · rw [esum]; simp only; omega
    · simp only; omega
  · have ea : aft rs place err size e = ([], place, keepE err e) := by simp [aft, he]
    rw [ea] at hr ⊢
    have hs0 := G.2.2.2.2.1 he
    refine ⟨hr, own, hap, hok, fun h0 => ?_, ?_, ?_, bel, hnew⟩
    · exfalso
      unfold keepE at h0
      simp only at h0
      split at h0
      · exact he h0
      · rename_i hne; exact hne h0
    · rw [esum]; simp only [List.length_nil]; omega
    · simp only [List.length_nil]; omega

/-- The item lies behind the others. -/
theorem OneRel.laid {w wr w2 : World} {data : List UInt8} {b : Nat} {D : Option Nat} {rv iv iv' : Value} {jts : List It} {rs : List UInt8} {place : Nat} {err : Int} {y : It} (h : OneRel w wr data b D rv iv jts (jts ++ [y]) rs place err)
    (hown : w2.ownsRow (w.heap.size + 1) 35 4 iv' (jts.length + 1) (cellsI jts ++ y.cells)) (hg : wr.grownBy w2 iv.ownBlock) (hat : iv'.ownBlock = iv.ownBlock ∨ iv'.ownBlock = some wr.heap.size) : OneRel w w2 data b D rv iv' (jts ++ [y]) (jts ++ [y]) rs place err := by
  have hold := h.rd.old
  refine ⟨h.rd.kept hg.size (hg.block b h.rd.lt (fun e => (h.apart b e.symm).1 rfl)) (fun k hk => hg.block k (h.rd.reads.block k hk) (fun e => (h.apart k e.symm).2 (h.rd.own k hk))), ?_, ?_, h.ok, h.eq, h.sum, h.plc, h.below.grown hg h.below.size (fun g e => by have := (World.ownsRow.lt h.own g e).1; omega), h.new⟩
  · have e : cellsI (jts ++ [y]) = cellsI jts ++ y.cells := by simp [cellsI]
    rw [e, List.length_append]
    exact hown
  · intro g hgv
    rcases hat with e | e
    · rw [e] at hgv; exact h.apart g hgv
    · rw [e] at hgv
      simp at hgv
      subst hgv
      refine ⟨fun e => by have := h.rd.lt; omega, fun e => by have := hold _ e; omega⟩

end Go.Proofs.Ytdndfbgjaadbmaa

import Derived.Test.YtblojlaifnmimaaGreatDoorSz
import Derived.Test.YtblojlaifnmimaaGreatDoorRh
import Derived.Test.YtblojlaifnmimaaGreatDoorSx
import Derived.Test.YtblojlaifnmimaaGreatDoorJ18
namespace Go.Proofs.YtblojlaifnmimaaGreatDoor
open Go.RowKit
set_option linter.unusedVariables false

theorem flat_take : ∀ (l : List Sp) (i : Nat), (l.flatMap Sp.vals).take (i * 10) = (l.take i).flatMap Sp.vals
  | [], i => by simp
  | x :: r, 0 => by simp
  | x :: r, i + 1 => by
    rw [List.flatMap_cons, List.take_succ_cons, List.flatMap_cons, ← flat_take r i, show (i + 1) * 10 = x.vals.length + i * 10 by rw [x.len]; omega, List.take_length_add_append]
theorem flat_drop : ∀ (l : List Sp) (i : Nat), (l.flatMap Sp.vals).drop (i * 10) = (l.drop i).flatMap Sp.vals
  | [], i => by simp
  | x :: r, 0 => by simp
  | x :: r, i + 1 => by
    rw [List.flatMap_cons, List.drop_succ_cons, ← flat_drop r i, show (i + 1) * 10 = x.vals.length + i * 10 by rw [x.len]; omega, List.drop_length_add_append]
theorem flatS_len (l : List Sp) : (l.flatMap Sp.vals).length = l.length * 10 := flat_len Sp.len l
/-- A step of a row is written. -/
theorem sp_store {v : Value} {ss : List Sp} {cs : List Comp} {w : World} {i n : Nat} (x : Sp) (A : All (spC v ss :: cs) w) (hi : i < n) (hn : ss.length = n) : ∃ g c, v = .slice (some ⟨g, 0, none⟩) n c ∧ w.there g (i * 10) x.vals.toArray.size ∧ All (spC v (ss.set i x) :: cs) (w.setCells g (i * 10) x.vals) := by
  subst hn
  obtain ⟨hl, hcase⟩ := (A.1.2.1 : w.ownsRow 0 43 10 v ss.length (ss.flatMap Sp.vals))
  rcases hcase with ⟨_, h0⟩ | ⟨g, cap, cur, rfl, _, hh, hc, hm, hs, ht⟩
  · omega
  · have A1 : All (blkC g cur.toList 43 :: cs) w := A.turn (Fr.refl _ _) (blkC_good _ _ _) (show w.heap[g]? = some (.cells cur.toList.toArray 43 (0, 0)) by simpa using hh) (fun k hk => Or.inl (by simpa [blkC, rowC, Value.ownBlock] using hk)) (fun k hk => A.1.2.2 k (by simpa [blkC, rowC, Value.ownBlock] using hk))
    have hcl : cur.toList.length = cap * 10 := by simpa using hs
    have hle : (i + 1) * 10 ≤ cur.toList.length := by rw [hcl]; omega
    refine ⟨g, cap, rfl, blk_there A1 (.head _) (by rw [List.size_toArray, x.len]; omega), ?_⟩
    have B := A1.setMid x.vals cur.toList (i * 10)
    have ew : (w.setCells g (i * 10) x.vals).heap[g]? = some (.cells (setMid cur.toList (i * 10) x.vals).toArray 43 (0, 0)) := B.1.2.1
    have es := setMid_eq x.vals cur.toList (i * 10) (by rw [x.len]; omega)
    refine B.turn (Fr.refl _ _) (rowC_good _ _ _ _ _) ?_ (fun k hk => Or.inl (by simpa [blkC, rowC, Value.ownBlock] using hk)) (fun k hk => B.1.2.2 k (by simpa [blkC, rowC, Value.ownBlock] using hk))
    show World.ownsRow _ 0 43 10 _ (ss.set i x).length ((ss.set i x).flatMap Sp.vals)
    refine ⟨flatS_len _, Or.inr ⟨g, cap, _, by rw [List.length_set], Nat.zero_le _, ew, by rw [List.length_set]; exact hc, hm, ?_, ?_⟩⟩
    · rw [List.size_toArray, es]
      simp only [List.length_append, List.length_take, List.length_drop, x.len]
      omega
    · show (setMid cur.toList (i * 10) x.vals).take _ = _
      have e1 : ss.set i x = ss.take i ++ x :: ss.drop (i + 1) := List.set_eq_take_append_cons_drop.trans (by rw [if_pos hi])
      have e2 : cur.toList.take (i * 10) = (ss.take i).flatMap Sp.vals := by
        rw [← flat_take, ← ht, List.take_take, Nat.min_eq_left (by omega)]
      have e3 : (cur.toList.drop (i * 10 + 10)).take (ss.length * 10 - (i * 10 + 10)) = (ss.drop (i + 1)).flatMap Sp.vals := by
        rw [← flat_drop, ← ht, List.drop_take, show (i + 1) * 10 = i * 10 + 10 by omega]
      rw [es, e1, List.flatMap_append, List.flatMap_cons, List.length_append, List.length_cons, List.append_assoc, x.len]
      have h1 : (cur.toList.take (i * 10)).length = i * 10 := by rw [List.length_take]; omega
      have el : (ss.take i).length + ((ss.drop (i + 1)).length + 1) = ss.length := by rw [List.length_take, List.length_drop]; omega
      rw [el, show ss.length * 10 = (cur.toList.take (i * 10)).length + (ss.length * 10 - i * 10) by rw [h1]; omega, List.take_length_add_append, e2]
      refine congrArg (fun q => (ss.take i).flatMap Sp.vals ++ q) ?_
      rw [show ss.length * 10 - i * 10 = x.vals.length + (ss.length * 10 - (i * 10 + 10)) by rw [x.len]; omega, List.take_length_add_append, e3]
/-- The first steps of a row are a step's. -/
def Wp (n k : Nat) (s : List Sp) (z : Sp) : Prop := s.length = n ∧ ∀ j, j < k → s[j]? = some z
theorem Wp.set {n k : Nat} {s : List Sp} {z : Sp} (h : Wp n k s z) (hk : k < n) : Wp n (k + 1) (s.set k z) z := by
  refine ⟨by rw [List.length_set]; exact h.1, fun j hj => ?_⟩
  rw [List.getElem?_set]
  by_cases hjk : k = j
  · subst hjk
    rw [if_pos rfl, if_pos (by rw [h.1]; exact hk)]
  · rw [if_neg hjk]
    exact h.2 j (by omega)
theorem Wp.add {n : Nat} {s : List Sp} {z : Sp} (h : Wp n n s z) : Wp (n + 1) (n + 1) (s ++ [z]) z := by
  refine ⟨by rw [List.length_append, h.1]; rfl, fun j hj => ?_⟩
  by_cases hjn : j < n
  · rw [List.getElem?_append_left (by rw [h.1]; exact hjn)]
    exact h.2 j hjn
  · have : j = n := by omega
    subst this
    rw [List.getElem?_append_right (by rw [h.1]; exact Nat.le_refl _), h.1, Nat.sub_self]
    rfl
def z0S : Sp := ⟨-1, 0, 0, 0, 0, .zero⟩
def z1S : Sp := ⟨-2, 0, 0, 0, 0, .zero⟩
def plP (c : List Int) (u v : Value) : List Value := cI c ++ [u] ++ (cI c ++ [v])
theorem plP_at {c : List Int} {u v : Value} (h : c.length = 10) : (plP c u v)[10]? = some u ∧ (plP c u v)[21]? = some v := by
  obtain ⟨a0, a1, a2, a3, a4, a5, a6, a7, a8, a9, rfl⟩ := ten h
  exact ⟨rfl, rfl⟩
theorem plP_set {c : List Int} {u v x : Value} (h : c.length = 10) : (plP c u v).set 10 x = plP c x v ∧ (plP c u v).set 21 x = plP c u x := by
  obtain ⟨a0, a1, a2, a3, a4, a5, a6, a7, a8, a9, rfl⟩ := ten h
  exact ⟨rfl, rfl⟩
end Go.Proofs.YtblojlaifnmimaaGreatDoor

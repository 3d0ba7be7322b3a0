import Derived.Test.YtblojlaifnmimaaGreatDoorRf
namespace Go.Proofs.YtblojlaifnmimaaGreatDoor
open Go.RowKit
set_option linter.unusedVariables false

def LVf (fr : List UInt8) (s : Sp) (i : Nat) : List Value := (leftF (fr.take i) { s with k := 0 }).vals
def DGf (k : Nat) (fr : List UInt8) (s : Sp) (i : Nat) : Ws := snN k :: digF (fr.take i) s
def zoV : List Value := [.int .i64 0, .string ⟨#[]⟩, .string ⟨#[]⟩, .int .i64 0, .int .i64 0]
theorem blk_there {L o n : Nat} {vs : List Value} {t : TypeId} {cs : List Comp} {w : World} (h : All cs w) (hm : blkC L vs t ∈ cs) (hl : o + n ≤ vs.length) : w.there L o n := fun j hj => by
  have hb := (h.mem hm).2.1
  refine ⟨?_, free_at hb _⟩
  rw [cell_at hb, List.getElem?_toArray, List.getElem?_eq_getElem (by omega)]
  rfl
theorem blk_range {L : Nat} {vs : List Value} {t : TypeId} {cs : List Comp} {w : World} (h : All cs w) (hm : blkC L vs t ∈ cs) : w.rangeAt L 0 vs := fun j u hu => by
  rw [cell_at (h.mem hm).2.1, Nat.zero_add, List.getElem?_toArray]
  exact hu
theorem blk_mid {L o : Nat} {vs us : List Value} {t : TypeId} {cs : List Comp} {w : World} (h : All cs w) (hm : blkC L vs t ∈ cs) (hu : ∀ j u, us[j]? = some u → vs[o + j]? = some u) : w.rangeAt L o us := fun j u hj => by
  rw [cell_at (h.mem hm).2.1, List.getElem?_toArray]
  exact hu j u hj
theorem line_step {s : Sp} {k : Nat} (hI : spI s) (h1 : 1 ≤ k) (h13 : k ≤ 13) (hs : s.k = (k : Int)) {i : Nat} (hi : i < (frL (slN k)).length) :
    ((frL (slN k)).getD i 0 = 111 ∧ setMid (LVf (frL (slN k)) s i) 5 zoV = LVf (frL (slN k)) s (i + 1) ∧ DGf k (frL (slN k)) s (i + 1) = DGf k (frL (slN k)) s i ∧ opsF ((frL (slN k)).take (i + 1)) = true ∧ (posF ((frL (slN k)).take i) s = true → posF ((frL (slN k)).take (i + 1)) s = true)) ∨
    ((frL (slN k)).getD i 0 ≠ 111 ∧ ∃ v : Int, (∀ W, Calls Tryz.prog 57 #[.agg s.vals.toArray, .int .u8 (((frL (slN k)).getD i 0).toNat : Int)] W fun e w' => e = .returned (.int .i64 v) ∧ Below W.heap.size W w') ∧
      ((v < 0 ∧ stepE s = 171) ∨ (0 ≤ v ∧ (∀ W, Calls Tryz.prog 45 #[.agg (LVf (frL (slN k)) s i).toArray, .int .u8 (((frL (slN k)).getD i 0).toNat : Int), .int .i64 0] W fun e w' => e = .returned (.agg (LVf (frL (slN k)) s (i + 1)).toArray) ∧ Below W.heap.size W w') ∧
        ∃ x : List UInt8, (∀ W, Calls Tryz.prog 30 #[.int .i64 v] W fun e w' => e = .returned (.string ⟨x.toArray⟩) ∧ Below W.heap.size W w') ∧ DGf k (frL (slN k)) s (i + 1) = DGf k (frL (slN k)) s i ++ [x] ∧ opsF ((frL (slN k)).take (i + 1)) = opsF ((frL (slN k)).take i) ∧ (posF ((frL (slN k)).take i) s = true → posF ((frL (slN k)).take (i + 1)) s = true)))) := by
  have hm := frL_mem h1 h13
  have hE := line_E h1 h13 hs
  generalize frL (slN k) = FR at *
  have hc := hm (FR.getD i 0) (by rw [List.getD_eq_getElem?_getD, List.getElem?_eq_getElem hi]; exact List.getElem_mem hi)
  unfold LVf DGf
  rw [leftF_snoc hi, digF_snoc hi, posF_snoc hi, opsF_snoc hi]
  have hb := posF_bad (s := s) hi
  generalize FR.getD i 0 = c at *
  by_cases h111 : c = 111
  · refine Or.inl ⟨h111, ?_, by rw [if_pos h111], by simp [h111], fun h => by simp [h, h111]⟩
    rw [if_pos h111]
    generalize leftF (FR.take i) { s with k := 0 } = t
    rfl
  · refine Or.inr ⟨h111, getS c.toNat s, fun W => of_any (hc.resolve_left h111), ?_⟩
    by_cases hv : getS c.toNat s < 0
    · refine Or.inl ⟨hv, ?_⟩
      rw [hE, hb h111 hv]
      simp
    · refine Or.inr ⟨by omega, fun W => ?_, Lib.decDigits (getS c.toNat s).toNat, fun W => ?_, by rw [if_neg h111]; rfl, by simp [h111], fun h => by rw [h, decide_eq_false h111, decide_eq_true (show 0 ≤ getS c.toNat s by omega)]; rfl⟩
      · rw [if_neg h111]
        exact with_any (hc.resolve_left h111)
      · have hle := hI.get c.toNat
        have := Digits_any (getS c.toNat s).toNat W (by omega)
        rwa [Int.toNat_of_nonneg (by omega)] at this
theorem line_fin {s : Sp} {k : Nat} (h1 : 1 ≤ k) (h13 : k ≤ 13) (hs : s.k = (k : Int)) (hp : posF ((frL (slN k)).take (frL (slN k)).length) s = true) :
    ∃ D, (∀ W, (Op.equalIn 10000 43 (.agg (LVf (frL (slN k)) s (frL (slN k)).length).toArray) (.agg zv.toArray)).run Tryz.prog W = .ok D W) ∧ (D = false → stepE s = 171) ∧ (D = true → opsF ((frL (slN k)).take (frL (slN k)).length) = true → stepE s = opE s.o ∧ (opE s.o = 0 → DGf k (frL (slN k)) s (frL (slN k)).length ++ opWs s.o = stepWs s)) ∧ (D = true → opsF ((frL (slN k)).take (frL (slN k)).length) = false → stepE s = 0 ∧ DGf k (frL (slN k)) s (frL (slN k)).length = stepWs s) := by
  have hE := line_E h1 h13 hs
  obtain ⟨_, _, e3, e4⟩ := line_done h1 h13 s hs
  unfold LVf DGf
  rw [List.take_length] at *
  refine ⟨_, fun W => eq43 _ _ W, fun h => ?_, fun h ho => ?_, fun h ho => ?_⟩
  · rw [hE, hp, if_neg (by simp), if_pos (of_decide_eq_false h)]
  · have h79 : 79 ∈ slN k := by rw [e3] at ho; exact of_decide_eq_true ho
    have hs0 : stepE s = opE s.o := by rw [hE, hp, if_neg (by simp), if_neg (fun hn => hn (of_decide_eq_true h)), if_pos h79]
    refine ⟨hs0, fun h0 => ?_⟩
    unfold stepWs
    rw [if_neg (by rw [hs0, h0]; simp), hs, Int.toNat_natCast, ← e4, if_pos h79]
    rfl
  · have h79 : ¬ 79 ∈ slN k := by rw [e3] at ho; exact of_decide_eq_false ho
    have hs0 : stepE s = 0 := by rw [hE, hp, if_neg (by simp), if_neg (fun hn => hn (of_decide_eq_true h)), if_neg h79]
    refine ⟨hs0, ?_⟩
    unfold stepWs
    rw [if_neg (by rw [hs0]; simp), hs, Int.toNat_natCast, ← e4, if_neg h79]
    simp
theorem LVf_len (fr : List UInt8) (s : Sp) (i : Nat) : (LVf fr s i).length = 10 := rfl
theorem LVf_one (fr : List UInt8) (s : Sp) (i : Nat) : ∀ u ∈ LVf fr s i, u.oneCell' = true := Sp.one _
theorem setMid_all {vs us : List Value} (h1 : vs.length = 10) (h2 : us.length = 10) : setMid vs 0 us = us := by
  rw [setMid_eq _ _ _ (by omega), h2]
  rw [List.take_zero, List.drop_eq_nil_of_le (by omega)]
  simp
end Go.Proofs.YtblojlaifnmimaaGreatDoor

import Derived.Test.YtblojlaifnmimaaGreatDoorRb
namespace Go.Proofs.YtblojlaifnmimaaGreatDoor
open Go.RowKit
set_option linter.unusedVariables false

/-- A row's letters, as the document writes them. -/
def frL (lt : List UInt8) : List UInt8 := lt.map fun c => if c = 79 then 111 else c
theorem row_word {k : Nat} (h1 : 1 ≤ k) (h13 : k ≤ 13) : wordW (rowN.getD k []) = snN k ∧ (rowN.getD k []).drop ((wordW (rowN.getD k [])).length + 1) = frL (slN k) ∧ (wordW (rowN.getD k [])).length + 1 ≤ (rowN.getD k []).length ∧ (rowN.getD k []).length ≤ 1000000 := by
  obtain rfl | rfl | rfl | rfl | rfl | rfl | rfl | rfl | rfl | rfl | rfl | rfl | rfl : k = 1 ∨ k = 2 ∨ k = 3 ∨ k = 4 ∨ k = 5 ∨ k = 6 ∨ k = 7 ∨ k = 8 ∨ k = 9 ∨ k = 10 ∨ k = 11 ∨ k = 12 ∨ k = 13 := by omega
  all_goals decide
theorem frL_len {k : Nat} (h1 : 1 ≤ k) (h13 : k ≤ 13) : (frL (slN k)).length ≤ 3 := by
  obtain rfl | rfl | rfl | rfl | rfl | rfl | rfl | rfl | rfl | rfl | rfl | rfl | rfl : k = 1 ∨ k = 2 ∨ k = 3 ∨ k = 4 ∨ k = 5 ∨ k = 6 ∨ k = 7 ∨ k = 8 ∨ k = 9 ∨ k = 10 ∨ k = 11 ∨ k = 12 ∨ k = 13 := by omega
  all_goals decide
theorem frL_mem {k : Nat} (h1 : 1 ≤ k) (h13 : k ≤ 13) : ∀ c ∈ frL (slN k), c = 111 ∨ c = 65 ∨ c = 75 ∨ c = 88 ∨ c = 89 := by
  obtain rfl | rfl | rfl | rfl | rfl | rfl | rfl | rfl | rfl | rfl | rfl | rfl | rfl : k = 1 ∨ k = 2 ∨ k = 3 ∨ k = 4 ∨ k = 5 ∨ k = 6 ∨ k = 7 ∨ k = 8 ∨ k = 9 ∨ k = 10 ∨ k = 11 ∨ k = 12 ∨ k = 13 := by omega
  all_goals decide
def leftF (fr : List UInt8) (t : Sp) : Sp := fr.foldl (fun t c => if c = 111 then { t with o := .zero } else setS c.toNat 0 t) t
def digF (fr : List UInt8) (s : Sp) : Ws := (fr.filter fun c => decide (c ≠ 111)).map fun c => Lib.decDigits (getS c.toNat s).toNat
def posF (fr : List UInt8) (s : Sp) : Bool := fr.all fun c => decide (c = 111) || decide (0 ≤ getS c.toNat s)
def opsF (fr : List UInt8) : Bool := decide (111 ∈ fr)
theorem take_c {fr : List UInt8} {i : Nat} (h : i < fr.length) : fr.take (i + 1) = fr.take i ++ [fr.getD i 0] := by
  rw [List.take_add_one, List.getElem?_eq_getElem h, List.getD_eq_getElem?_getD, List.getElem?_eq_getElem h]
  rfl
theorem leftF_snoc {fr : List UInt8} {i : Nat} {t : Sp} (h : i < fr.length) : leftF (fr.take (i + 1)) t = (if fr.getD i 0 = 111 then { leftF (fr.take i) t with o := .zero } else setS (fr.getD i 0).toNat 0 (leftF (fr.take i) t)) := by
  rw [take_c h]
  unfold leftF
  rw [List.foldl_append]
  rfl
theorem digF_snoc {fr : List UInt8} {i : Nat} {s : Sp} (h : i < fr.length) : digF (fr.take (i + 1)) s = (if fr.getD i 0 = 111 then digF (fr.take i) s else digF (fr.take i) s ++ [Lib.decDigits (getS (fr.getD i 0).toNat s).toNat]) := by
  rw [take_c h]
  unfold digF
  rw [List.filter_append, List.map_append]
  generalize fr.getD i 0 = c
  by_cases hc : c = 111
  · rw [if_pos hc, List.filter_cons_of_neg (by simp [hc])]; simp
  · rw [if_neg hc, List.filter_cons_of_pos (by simp [hc])]; simp
theorem posF_snoc {fr : List UInt8} {i : Nat} {s : Sp} (h : i < fr.length) : posF (fr.take (i + 1)) s = (posF (fr.take i) s && (decide (fr.getD i 0 = 111) || decide (0 ≤ getS (fr.getD i 0).toNat s))) := by
  rw [take_c h]
  unfold posF
  simp
theorem opsF_snoc {fr : List UInt8} {i : Nat} (h : i < fr.length) : opsF (fr.take (i + 1)) = (opsF (fr.take i) || decide (fr.getD i 0 = 111)) := by
  rw [take_c h]
  unfold opsF
  generalize fr.getD i 0 = c
  rw [Bool.eq_iff_iff]
  simp only [decide_eq_true_eq, List.mem_append, List.mem_singleton, Bool.or_eq_true]
  exact ⟨fun h => h.imp id Eq.symm, fun h => h.imp id Eq.symm⟩
theorem posF_bad {fr : List UInt8} {i : Nat} {s : Sp} (h : i < fr.length) (hc : fr.getD i 0 ≠ 111) (hn : getS (fr.getD i 0).toNat s < 0) : posF fr s = false := by
  rw [← Bool.not_eq_true]
  intro hp
  unfold posF at hp
  rw [List.all_eq_true] at hp
  have := hp (fr.getD i 0) (by rw [List.getD_eq_getElem?_getD, List.getElem?_eq_getElem h]; exact List.getElem_mem h)
  rw [decide_eq_false hc, Bool.false_or, decide_eq_true_eq] at this
  omega
/-- What the document's line comes to. -/
theorem line_done {k : Nat} (h1 : 1 ≤ k) (h13 : k ≤ 13) (s : Sp) (hs : s.k = (k : Int)) : posF (frL (slN k)) s = posS (slN k) s ∧ (leftF (frL (slN k)) { s with k := 0 } = Sp.zero ↔ onlyS (slN k) s ⟨s.k, 0, 0, 0, 0, .zero⟩ = s) ∧ opsF (frL (slN k)) = decide (79 ∈ slN k) ∧ (digF (frL (slN k)) s ++ if 79 ∈ slN k then opWs s.o else []) = (slN k).flatMap (fieldS s) := by
  obtain ⟨sk, sa, sb, sx, sy, so⟩ := s
  refine kinds13 (P := fun k lt => posF (frL lt) ⟨sk, sa, sb, sx, sy, so⟩ = posS lt ⟨sk, sa, sb, sx, sy, so⟩ ∧ (leftF (frL lt) { (⟨sk, sa, sb, sx, sy, so⟩ : Sp) with k := 0 } = Sp.zero ↔ onlyS lt ⟨sk, sa, sb, sx, sy, so⟩ ⟨sk, 0, 0, 0, 0, .zero⟩ = ⟨sk, sa, sb, sx, sy, so⟩) ∧ opsF (frL lt) = decide (79 ∈ lt) ∧ (digF (frL lt) ⟨sk, sa, sb, sx, sy, so⟩ ++ if 79 ∈ lt then opWs so else []) = lt.flatMap (fieldS ⟨sk, sa, sb, sx, sy, so⟩)) ?_ ?_ ?_ ?_ ?_ ?_ h1 h13
  all_goals (try intro _ _)
  all_goals refine ⟨?_, ?_, ?_, ?_⟩
  all_goals first
    | (simp [posF, posS, frL, getS]; done)
    | (constructor <;> (intro h; simp [leftF, onlyS, frL, setS, getS, Sp.zero] at h ⊢; (first | (obtain ⟨rfl, rfl, rfl, rfl, rfl⟩ := h) | (obtain ⟨rfl, rfl, rfl, rfl⟩ := h) | (obtain ⟨rfl, rfl, rfl⟩ := h) | (obtain ⟨rfl, rfl⟩ := h)); simp; done))
    | (simp [frL]; done)
    | (simp [digF, frL, fieldS, getS]; done)
theorem line_E {k : Nat} (h1 : 1 ≤ k) (h13 : k ≤ 13) {s : Sp} (hs : s.k = (k : Int)) : stepE s = (if posF (frL (slN k)) s = false then 171 else if leftF (frL (slN k)) { s with k := 0 } ≠ Sp.zero then 171 else if 79 ∈ slN k then opE s.o else 0) := by
  obtain ⟨e1, e2, _, _⟩ := line_done h1 h13 s hs
  unfold stepE mayS
  rw [e1, hs, Int.toNat_natCast, decide_eq_true (show 1 ≤ (k : Int) ∧ (k : Int) ≤ 13 by omega), Bool.true_and]
  rw [hs] at e2
  cases hp : posS (slN k) s
  · simp
  · by_cases hl : leftF (frL (slN k)) { s with k := 0 } = Sp.zero
    · rw [if_neg (fun h : ¬ _ => h hl), decide_eq_true (e2.1 hl)]
      simp
    · rw [if_pos hl, decide_eq_false (fun h => hl (e2.2 h))]
      simp
theorem stepE_range {s : Sp} (h : ¬ (1 ≤ s.k ∧ s.k ≤ 13)) : stepE s = 171 := by
  unfold stepE mayS
  rw [decide_eq_false h]
  simp
/-- The document's line. -/
def lineT (s : Sp) : List UInt8 := if stepE s ≠ 0 then [] else lineP (stepWs s)
theorem rows_all {W : World} : Calls Tryz.prog 42 #[] W fun e w' => ∃ g, e = .returned (.slice (some ⟨g, 0, none⟩) 14 14) ∧ Below W.heap.size W w' ∧ ∀ k, k < 14 → w'.cell? ⟨g, k, none⟩ = some (.string ⟨(rowN.getD k []).toArray⟩) := by
  refine rows_any.mono ?_
  rintro e w' ⟨rfl, rfl⟩
  refine ⟨_, rfl, ba W _, fun k hk => ?_⟩
  rw [cell_at (heap_alloc_new W _)]
  have : rowN.length = 14 := rfl
  unfold txW
  rw [List.getElem?_toArray, List.getElem?_map, List.getElem?_eq_getElem (by omega), List.getD_eq_getElem?_getD, List.getElem?_eq_getElem (by omega)]
  rfl
end Go.Proofs.YtblojlaifnmimaaGreatDoor

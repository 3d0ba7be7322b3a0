import Derived.Test.YtkaigmoeagjjgaaOwn
namespace Go.Proofs.Ytkaigmoeagjjgaa
open Go.RowKit
set_option linter.unusedVariables false

theorem maxI_spec : ∀ {l : List Int}, 0 < l.length → maxI l ∈ l ∧ ∀ x ∈ l, x ≤ maxI l := by
  have key : ∀ (t : List Int) (a : Int), (t.foldl (fun m x => if m < x then x else m) a ∈ a :: t) ∧ ∀ x ∈ a :: t, x ≤ t.foldl (fun m x => if m < x then x else m) a := by
    intro t
    induction t with
    | nil => intro a; exact ⟨by simp, by simp⟩
    | cons b t ih =>
      intro a
      by_cases c : a < b
      · have h := ih b
        simp only [List.foldl_cons, if_pos c]
        refine ⟨List.mem_cons_of_mem _ h.1, fun x hx => ?_⟩
        rcases List.mem_cons.1 hx with rfl | hx
        · have := h.2 b (by simp); omega
        · exact h.2 x hx
      · have h := ih a
        simp only [List.foldl_cons, if_neg c]
        refine ⟨?_, fun x hx => ?_⟩
        · rcases List.mem_cons.1 h.1 with e | e
          · rw [e]; simp
          · exact List.mem_cons_of_mem _ (List.mem_cons_of_mem _ e)
        · have ha := h.2 a (by simp)
          rcases List.mem_cons.1 hx with rfl | hx
          · exact ha
          · rcases List.mem_cons.1 hx with rfl | hx
            · omega
            · exact h.2 x (List.mem_cons_of_mem _ hx)
  intro l h
  cases l with
  | nil => simp at h
  | cons a t => exact key t a
theorem minI_spec : ∀ {l : List Int}, 0 < l.length → minI l ∈ l ∧ ∀ x ∈ l, minI l ≤ x := by
  have key : ∀ (t : List Int) (a : Int), (t.foldl (fun m x => if x < m then x else m) a ∈ a :: t) ∧ ∀ x ∈ a :: t, t.foldl (fun m x => if x < m then x else m) a ≤ x := by
    intro t
    induction t with
    | nil => intro a; exact ⟨by simp, by simp⟩
    | cons b t ih =>
      intro a
      by_cases c : b < a
      · have h := ih b
        simp only [List.foldl_cons, if_pos c]
        refine ⟨List.mem_cons_of_mem _ h.1, fun x hx => ?_⟩
        rcases List.mem_cons.1 hx with rfl | hx
        · have := h.2 b (by simp); omega
        · exact h.2 x hx
      · have h := ih a
        simp only [List.foldl_cons, if_neg c]
        refine ⟨?_, fun x hx => ?_⟩
        · rcases List.mem_cons.1 h.1 with e | e
          · rw [e]; simp
          · exact List.mem_cons_of_mem _ (List.mem_cons_of_mem _ e)
        · have ha := h.2 a (by simp)
          rcases List.mem_cons.1 hx with rfl | hx
          · exact ha
          · rcases List.mem_cons.1 hx with rfl | hx
            · omega
            · exact h.2 x (List.mem_cons_of_mem _ hx)
  intro l h
  cases l with
  | nil => simp at h
  | cons a t => exact key t a

theorem srt_mem {l : List Int} {k : Nat} {r : Int} (h : (srt l)[k]? = some r) : r ∈ l := (srt_perm l).mem_iff.1 (List.mem_of_getElem? h)
theorem srt_le {l : List Int} {i j : Nat} {x y : Int} (hi : (srt l)[i]? = some x) (hj : (srt l)[j]? = some y) (h : i ≤ j) : x ≤ y := by
  obtain ⟨h1, rfl⟩ := List.getElem?_eq_some_iff.1 hi
  obtain ⟨h2, rfl⟩ := List.getElem?_eq_some_iff.1 hj
  by_cases e : i = j
  · subst e; exact Int.le_refl _
  · exact List.pairwise_iff_getElem.1 (srt_sorted l) i j h1 h2 (by omega)
theorem ShP.mem {l : List Int} {p : Nat} {r : Int} (h : ShP l p r) : r ∈ l := by
  obtain ⟨k, _, _, _, _, h5⟩ := h
  exact srt_mem h5
theorem lt_of_order {x y : Nat} {a b : Int} (hx : Flt.Is x a) (hy : Flt.Is y b) : Ieee.double.order x y = some .lt ↔ a < b := by
  rw [Flt.order_Is hx hy]
  exact ⟨fun h => Int.compare_eq_lt.1 (Option.some.inj h), fun h => by rw [Int.compare_eq_lt.2 h]⟩
/-- the whole share is the greatest one -/
theorem ShP.whole {l : List Int} {r : Int} (hn : l.length ≤ 4096) (h : ShP l W1 r) : r = maxI l := by
  obtain ⟨k, h1, h2, h3, h4, h5⟩ := h
  have hw := (want_is is_one one_pos (Int.le_refl _) hn).2
  rw [Flt.pr_one (nat_is hn)] at hw
  have hk : k = l.length := by
    rcases Nat.lt_or_eq_of_le h2 with h | h
    · refine absurd ((lt_of_order (nat_is (by omega)) hw).2 ?_) h4
      exact Int.mul_lt_mul_of_pos_right (by omega) one_pos
    · exact h
  subst hk
  obtain ⟨m1, m2⟩ := maxI_spec (l := l) (by omega)
  refine Int.le_antisymm (m2 r (srt_mem h5)) ?_
  obtain ⟨j, hj⟩ := List.mem_iff_getElem?.1 ((srt_perm l).mem_iff.2 m1)
  have hjl := (List.getElem?_eq_some_iff.1 hj).1
  rw [srt_len] at hjl
  exact srt_le hj h5 (by omega)
theorem ShP.rise {l : List Int} {p m : Nat} {a b : Int} {x y : Int} (hn : l.length ≤ 4096) (hp : Flt.Is p a) (hm : Flt.Is m b) (h0 : 0 < a) (hab : a ≤ b) (hb : b ≤ Flt.one) (hx : ShP l p x) (hy : ShP l m y) : x ≤ y := by
  obtain ⟨k, h1, h2, h3, h4, h5⟩ := hx
  obtain ⟨j, g1, g2, g3, g4, g5⟩ := hy
  have wp := (want_is hp h0 (Int.le_trans hab hb) hn).2
  have wm := (want_is hm (by omega) hb hn).2
  refine srt_le h5 g5 ?_
  refine Nat.sub_le_sub_right (Nat.not_lt.1 fun hlt => ?_) 1
  have e1 := (lt_of_order (nat_is (by omega)) wp).1 (h3 j g1 hlt)
  have e2 : ¬ ((j : Int) * Flt.one < Flt.pr b ((l.length : Int) * Flt.one)) := fun h => g4 ((lt_of_order (nat_is (by omega)) wm).2 h)
  have e3 := Flt.pr_mono (b := (l.length : Int) * Flt.one) hab (Int.mul_nonneg (Int.natCast_nonneg _) (Int.le_of_lt one_pos))
  omega

/-! three conditions in a row -/
theorem le_of {x y : Nat} (h : (Ieee.double.order x y == some .lt || Ieee.double.order x y == some .eq) = true) : Ieee.double.order x y = some .lt ∨ Ieee.double.order x y = some .eq := by
  rw [Bool.or_eq_true] at h
  rcases h with h | h
  · exact Or.inl (by simpa using h)
  · exact Or.inr (by simpa using h)
theorem parts_is {p m : Nat} (hp : p < 18446744073709551616) (hm : m < 18446744073709551616) (h1 : Ieee.double.order p 0 = some .gt) (h2 : Ieee.double.order p m = some .lt ∨ Ieee.double.order p m = some .eq) (h3 : Ieee.double.order m 4607182418800017408 = some .lt ∨ Ieee.double.order m 4607182418800017408 = some .eq) :
    ∃ a b, Flt.Is p a ∧ Flt.Is m b ∧ 0 < a ∧ a ≤ b ∧ b ≤ Flt.one := by
  obtain ⟨s0, m0, p0, e0⟩ := Flt.Fn.read ⟨_, is_one⟩
  obtain ⟨s1, m1, p1, e1⟩ := Flt.Fn.read ⟨_, is_zero⟩
  have hf : Flt.Fn p ∧ Flt.Fn m := by
    unfold Ieee.Format.order at h1 h2 h3
    rw [e1] at h1
    rw [e0] at h3
    cases hd : Ieee.double.read p with
    | nan s t => rw [hd] at h1; simp [Ieee.Datum.order] at h1
    | infinity s =>
      rw [hd] at h1 h2
      cases s
      · cases he : Ieee.double.read m with
        | nan s t => rw [he] at h2; simp [Ieee.Datum.order] at h2
        | infinity t =>
          rw [he] at h2 h3
          cases t
          · simp [Ieee.Datum.order] at h3
          · simp [Ieee.Datum.order] at h2; exact absurd h2 (by decide)
        | number t a b => rw [he] at h2; simp [Ieee.Datum.order] at h2
      · simp [Ieee.Datum.order] at h1
    | number s a b =>
      rw [hd] at h2
      cases he : Ieee.double.read m with
      | nan s t => rw [he] at h2; simp [Ieee.Datum.order] at h2
      | infinity t =>
        rw [he] at h2 h3
        cases t
        · simp [Ieee.Datum.order] at h3
        · simp [Ieee.Datum.order] at h2
      | number t c d => exact ⟨is_of_read hp hd, is_of_read hm he⟩
  obtain ⟨⟨a, ha⟩, ⟨b, hb⟩⟩ := hf
  rw [Flt.order_Is ha is_zero] at h1
  rw [Flt.order_Is ha hb] at h2
  rw [Flt.order_Is hb is_one] at h3
  refine ⟨a, b, ha, hb, Int.compare_eq_gt.1 (Option.some.inj h1), ?_, ?_⟩
  · rcases h2 with h | h
    · exact Int.le_of_lt (Int.compare_eq_lt.1 (Option.some.inj h))
    · exact Int.le_of_eq (Int.compare_eq_eq.1 (Option.some.inj h))
  · rcases h3 with h | h
    · exact Int.le_of_lt (Int.compare_eq_lt.1 (Option.some.inj h))
    · exact Int.le_of_eq (Int.compare_eq_eq.1 (Option.some.inj h))
theorem isP_of {x : Nat} {a : Int} (h : Flt.Is x a) (h0 : 0 < a) (h1 : a ≤ Flt.one) : isP x = true := by
  unfold isP
  rw [Flt.order_Is h is_zero, Flt.order_Is h is_one, Int.compare_eq_gt.2 h0]
  rcases Int.lt_or_eq_of_le h1 with h | h
  · rw [Int.compare_eq_lt.2 h]; rfl
  · rw [Int.compare_eq_eq.2 h]; rfl
end Go.Proofs.Ytkaigmoeagjjgaa

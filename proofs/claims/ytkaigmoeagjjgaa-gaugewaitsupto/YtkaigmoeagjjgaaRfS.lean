import Derived.Test.YtkaigmoeagjjgaaTot
namespace Go.Proofs.Ytkaigmoeagjjgaa
open Go.RowKit
set_option linter.unusedVariables false

/-- how many are not above -/
def na (l : List Int) (x : Int) : Nat := l.countP (fun e => decide (e ≤ x))
theorem na_snoc (l : List Int) (x y : Int) : na (l ++ [y]) x = na l x + (if y ≤ x then 1 else 0) := by
  unfold na; rw [List.countP_append]; simp [List.countP_cons]
theorem na_srt (l : List Int) (x : Int) : na (srt l) x = na l x := (srt_perm l).countP_eq _
theorem na_at : ∀ (s : List Int) (j : Nat) (r : Int), s.Pairwise (· ≤ ·) → s[j]? = some r → j + 1 ≤ na s r ∧ ∀ b, b < r → na s b ≤ j
  | [], j, r, _, h => by simp at h
  | a :: s, 0, r, hp, h => by
    obtain rfl : a = r := by simpa using h
    refine ⟨by unfold na; rw [List.countP_cons]; simp, fun b hb => ?_⟩
    have : na (a :: s) b = 0 := by
      unfold na
      rw [List.countP_eq_zero]
      intro x hx
      rcases List.mem_cons.1 hx with rfl | hx
      · simp; omega
      · have := List.rel_of_pairwise_cons hp hx
        simp; omega
    omega
  | a :: s, j + 1, r, hp, h => by
    have hs : s[j]? = some r := by simpa using h
    have ih := na_at s j r hp.of_cons hs
    have har : a ≤ r := List.rel_of_pairwise_cons hp (List.mem_of_getElem? hs)
    have e : ∀ b, na (a :: s) b = na s b + (if a ≤ b then 1 else 0) := fun b => by
      unfold na; rw [List.countP_cons]; simp
    refine ⟨?_, fun b hb => ?_⟩
    · rw [e, if_pos har]; omega
    · have := ih.2 b hb
      rw [e]; split <;> omega

set_option maxHeartbeats 1000000 in
theorem notAbove_any {w : World} {v : Value} {l : List Int} {x : Int} (h : IntsAt w v l) (hn : l.length ≤ 4096) : Calls Try.prog 37 #[v, .int .i64 x] w fun e w' => e = .returned (.int .i64 (na l x : Nat)) ∧ w' = w := by
  obtain ⟨ao, c, rfl⟩ := h.form
  obtain ⟨hc, _⟩ := h.cap
  have hH := hid h
  clear h
  go_enter Try.func37, Try.ntmps37
  go_wp2
  go_loopw [5, 6] (fun s i wr => ∃ k : Nat, k ≤ l.length ∧ s = .int .i64 (na (l.take k) x : Nat) ∧ i = .int .i64 k ∧ wr = w) (fun _ i _ => l.length - (intOf i).toNat)
  case atStart => exact ⟨0, Nat.zero_le _, rfl, rfl, rfl⟩
  case round =>
    obtain ⟨k, hk, rfl, rfl, rfl⟩ := hrel
    by_cases hlt : k < l.length
    · obtain ⟨y, hy⟩ : ∃ x, l[k]? = some x := ⟨_, List.getElem?_eq_getElem hlt⟩
      obtain ⟨b, off, rfl, hb, hcx⟩ := hH.out.at hy
      have hsn := hid (show na (l.take (k + 1)) x = _ by rw [take_snoc hy, na_snoc])
      have hle : na (l.take k) x ≤ 4096 := by
        have := List.countP_le_length (p := fun e => decide (e ≤ x)) (l := l.take k)
        rw [List.length_take] at this
        unfold na; omega
      generalize na (l.take k) x = N at hsn hle ⊢
      clear hy
      by_cases d : y ≤ x
      · have e : decide (y ≤ x) = true := decide_eq_true d
        rw [if_pos d] at hsn
        clear d
        go_wp2
        go_roundw
        case rel => exact ⟨k + 1, by omega, by rw [hsn.out]; rfl, rfl, trivial⟩
        case measure => simp [intOf]; omega
      · have e : decide (y ≤ x) = false := decide_eq_false d
        rw [if_neg d] at hsn
        clear d
        go_wp2
        go_roundw
        case rel => exact ⟨k + 1, by omega, by rw [hsn.out]; rfl, rfl, trivial⟩
        case measure => simp [intOf]; omega
    · obtain rfl : k = l.length := by omega
      rw [List.take_length]
      go_wp2
      go_ret
      exact ⟨rfl, rfl⟩

theorem rShare_part {w : World} {x : Nat} : Calls Try.prog 36 #[.float .f64 x] w fun e w' => e = .returned (.bool (isP x)) ∧ w' = w := by
  obtain ⟨R, hR⟩ : ∃ R, Hid (R = isP x) := ⟨_, rfl⟩
  rw [← hR.out]
  by_cases ha : FloatKind.f64.format.order x 0 = some .gt
  · have e : R = (FloatKind.f64.format.order x 4607182418800017408 == some .lt || FloatKind.f64.format.order x 4607182418800017408 == some .eq) := by
      rw [hR.out]
      show (FloatKind.f64.format.order x 0 == some .gt && _) = _
      rw [ha]; rfl
    rw [e]
    clear e hR
    go_enter Try.func36, Try.ntmps36
    go_wp2
    go_ret
    exact ⟨rfl, rfl⟩
  · have e : R = false := by
      rw [hR.out]
      show (FloatKind.f64.format.order x 0 == some .gt && _) = _
      rw [show (FloatKind.f64.format.order x 0 == some .gt) = false by simpa using ha]; rfl
    subst e
    clear hR
    go_enter Try.func36, Try.ntmps36
    go_wp2
    go_ret
    exact ⟨rfl, rfl⟩

/-! the least good one is the answer -/
def Good (l : List Int) (p : Nat) (x : Int) : Prop := Ieee.double.order (Flt.fx (na l x : Nat)) (wantF p l.length) ≠ some .lt
theorem least_nat (P : Nat → Prop) : ∀ n, P n → ∃ k, k ≤ n ∧ P k ∧ ∀ j, j < k → ¬ P j := by
  intro n
  induction n using Nat.strongRecOn with
  | ind n ih =>
    intro hn
    by_cases h : ∃ j, j < n ∧ P j
    · obtain ⟨j, hj, hp⟩ := h
      obtain ⟨k, h1, h2, h3⟩ := ih j hj hp
      exact ⟨k, by omega, h2, h3⟩
    · exact ⟨n, Nat.le_refl _, hn, fun j hj hp => h ⟨j, hj, hp⟩⟩
theorem ShP_ex {l : List Int} {p : Nat} {a : Int} (h0 : 0 < l.length) (hn : l.length ≤ 4096) (ha : Flt.Is p a) (ha0 : 0 < a) (ha1 : a ≤ Flt.one) : ∃ r, ShP l p r := by
  obtain ⟨k, h1, ⟨h2, h3⟩, h4⟩ := least_nat (fun k => 1 ≤ k ∧ Ieee.double.order (Flt.fx (k : Nat)) (wantF p l.length) ≠ some .lt) l.length ⟨h0, last_ok ha ha0 ha1 hn⟩
  have hk : k - 1 < (srt l).length := by rw [srt_len]; omega
  refine ⟨(srt l)[k - 1], k, h2, h1, fun j hj1 hj2 => ?_, h3, List.getElem?_eq_getElem hk⟩
  exact Classical.byContradiction fun hc => h4 j hj2 ⟨hj1, hc⟩
theorem good_mono {p n c d : Nat} {a : Int} (hn : n ≤ 4096) (ha : Flt.Is p a) (ha0 : 0 < a) (ha1 : a ≤ Flt.one) (hc : c ≤ 4096) (hd : d ≤ 4096) (hcd : c ≤ d) (h : Ieee.double.order (Flt.fx (c : Nat)) (wantF p n) ≠ some .lt) : Ieee.double.order (Flt.fx (d : Nat)) (wantF p n) ≠ some .lt := by
  have hw := (want_is ha ha0 ha1 hn).2
  intro hlt
  have h1 := (lt_of_order (nat_is hd) hw).1 hlt
  refine h ((lt_of_order (nat_is hc) hw).2 ?_)
  have : (c : Int) * Flt.one ≤ (d : Int) * Flt.one := Int.mul_le_mul_of_nonneg_right (by omega) (Int.le_of_lt one_pos)
  omega
theorem na_le (l : List Int) (x : Int) : na l x ≤ l.length := List.countP_le_length
theorem na_pos {l : List Int} {x : Int} (h : x ∈ l) : 1 ≤ na l x := by
  unfold na
  exact List.countP_pos_iff.2 ⟨x, h, by simp⟩
theorem best_is {l : List Int} {p : Nat} {a : Int} {b r : Int} (hn : l.length ≤ 4096) (ha : Flt.Is p a) (ha0 : 0 < a) (ha1 : a ≤ Flt.one) (hr : ShP l p r) (hb : b ∈ l) (hg : Good l p b) (hmin : ∀ x ∈ l, Good l p x → b ≤ x) : b = r := by
  have hrm := hr.mem
  obtain ⟨k, h1, h2, h3, h4, h5⟩ := hr
  have hna := na_at (srt l) (k - 1) r (srt_sorted l) h5
  rw [na_srt] at hna
  refine Int.le_antisymm ?_ ?_
  · refine hmin r hrm ?_
    unfold Good
    exact good_mono hn ha ha0 ha1 (by omega) (Nat.le_trans (na_le l r) hn) (by omega) h4
  · refine Int.not_lt.1 fun hlt => ?_
    have h6 := hna.2 b hlt
    rw [na_srt] at h6
    have h7 := h3 (na l b) (na_pos hb) (by omega)
    exact hg h7
/-- the greatest one is good -/
theorem max_good {l : List Int} {p : Nat} {a : Int} (h0 : 0 < l.length) (hn : l.length ≤ 4096) (ha : Flt.Is p a) (ha0 : 0 < a) (ha1 : a ≤ Flt.one) : maxI l ∈ l ∧ Good l p (maxI l) := by
  obtain ⟨m1, m2⟩ := maxI_spec h0
  refine ⟨m1, ?_⟩
  have : na l (maxI l) = l.length := by
    unfold na
    rw [List.countP_eq_length]
    intro x hx
    simpa using m2 x hx
  unfold Good
  rw [this]
  exact last_ok ha ha0 ha1 hn
end Go.Proofs.Ytkaigmoeagjjgaa

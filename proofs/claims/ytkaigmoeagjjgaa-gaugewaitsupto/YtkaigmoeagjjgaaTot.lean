import Derived.Test.YtkaigmoeagjjgaaRis
namespace Go.Proofs.Ytkaigmoeagjjgaa
open Go.RowKit
set_option linter.unusedVariables false

/-! every answer -/
def barE (l es : List Int) : Int := if 4096 < l.length ∨ 4096 < es.length then 220 else if es.Pairwise (· < ·) then 0 else 1
def barO (l es : List Int) : List Int := if barE l es = 0 then barsL l es else []
theorem ints_nil (w : World) : IntsAt w (.slice none 0 0) [] := ⟨none, 0, rfl, Nat.le_refl _, .inl ⟨rfl, fun _ => rfl⟩⟩
theorem Bars_tot {w : World} {v u : Value} {l es : List Int} (h : IntsAt w v l) (h2 : IntsAt w u es) : Calls Try.prog 17 #[v, u] w fun e w' => ∃ x, e = .returned (.tuple #[x, .int .i64 (barE l es)]) ∧ IntsAt w' x (barO l es) ∧ Below w.heap.size w w' := by
  by_cases hm : 4096 < l.length ∨ 4096 < es.length
  · obtain ⟨ao, c, rfl⟩ := h.form
    obtain ⟨bo, d, rfl⟩ := h2.form
    refine (Bars_many hm).mono ?_
    rintro e w' ⟨rfl, rfl⟩
    have hE : barE l es = 220 := by unfold barE; rw [if_pos hm]
    refine ⟨_, by rw [hE], ?_, Below.refl _ _⟩
    unfold barO; rw [hE, if_neg (by decide)]
    exact ints_nil _
  · refine (Bars_any h h2 (by omega) (by omega)).mono ?_
    rintro e w' (⟨hr, x, rfl, hA⟩ | ⟨hr, rfl, hb⟩)
    · have hE : barE l es = 0 := by unfold barE; rw [if_neg hm, if_pos (show es.Pairwise (· < ·) from hr)]
      refine ⟨x, by rw [hE], ?_, inC_of hA (by simp)⟩
      unfold barO; rw [hE, if_pos rfl]
      exact ints_of_all hA
    · have hE : barE l es = 1 := by unfold barE; rw [if_neg hm, if_neg (show ¬ es.Pairwise (· < ·) from hr)]
      refine ⟨_, by rw [hE], ?_, hb⟩
      unfold barO; rw [hE, if_neg (by decide)]
      exact ints_nil _
def shE (l : List Int) (p : Nat) : Int := if 4096 < l.length then 220 else if l.length = 0 then 222 else if isP p then 0 else 221
theorem ShP.one {l : List Int} {p : Nat} {x y : Int} (hx : ShP l p x) (hy : ShP l p y) : x = y := by
  obtain ⟨k, h1, h2, h3, h4, h5⟩ := hx
  obtain ⟨j, g1, g2, g3, g4, g5⟩ := hy
  have : k = j := by
    rcases Nat.lt_trichotomy k j with h | h | h
    · exact absurd (g3 k h1 h) h4
    · exact h
    · exact absurd (h3 j g1 h) g4
  subst this
  rw [h5] at g5
  exact Option.some.inj g5
def ShR (l : List Int) (p : Nat) (r : Int) : Prop := (shE l p = 0 ∧ ShP l p r) ∨ (shE l p ≠ 0 ∧ r = 0)
theorem ShR.one {l : List Int} {p : Nat} {x y : Int} (hx : ShR l p x) (hy : ShR l p y) : x = y := by
  rcases hx with ⟨h1, h2⟩ | ⟨h1, h2⟩ <;> rcases hy with ⟨g1, g2⟩ | ⟨g1, g2⟩
  · exact h2.one g2
  · exact absurd h1 g1
  · exact absurd g1 h1
  · rw [h2, g2]
theorem Share_tot {w : World} {v : Value} {l : List Int} {p : Nat} (h : IntsAt w v l) (hp : p < 18446744073709551616) : Calls Try.prog 15 #[v, .float .f64 p] w fun e w' => ∃ r, e = .returned (.tuple #[.int .i64 r, .int .i64 (shE l p)]) ∧ ShR l p r ∧ Below w.heap.size w w' := by
  by_cases hb : 4096 < l.length ∨ l.length = 0
  · refine (Share_bad (x := p) h hb).mono ?_
    rintro e w' ⟨rfl, rfl⟩
    have hE : shE l p = ofE l.length ∧ shE l p ≠ 0 := by
      unfold shE ofE
      rcases hb with hb | hb
      · rw [if_pos hb, if_pos hb]; exact ⟨rfl, by decide⟩
      · rw [hb]; exact ⟨rfl, by rw [if_neg (by decide), if_pos rfl]; decide⟩
    exact ⟨0, by rw [hE.1], .inr ⟨hE.2, rfl⟩, Below.refl _ _⟩
  · cases hq : isP p with
    | false =>
      refine (Share_part h (by omega) (by omega) hq).mono ?_
      rintro e w' ⟨rfl, rfl⟩
      have hE : shE l p = 221 := by unfold shE; rw [if_neg (by omega), if_neg (by omega), hq]; rfl
      exact ⟨0, by rw [hE], .inr ⟨by rw [hE]; decide, rfl⟩, Below.refl _ _⟩
    | true =>
      refine (Share_ok h (by omega) (by omega) hp hq).mono ?_
      rintro e w' ⟨r, rfl, hr, hb'⟩
      have hE : shE l p = 0 := by unfold shE; rw [if_neg (by omega), if_neg (by omega), hq]; rfl
      exact ⟨r, by rw [hE], .inl ⟨hE, hr⟩, hb'⟩
def ofA (l : List Int) : Int := if ofE l.length = 0 then l.length else 0
def ofB (l : List Int) : Int := if ofE l.length = 0 then minI l else 0
def ofC (l : List Int) : Int := if ofE l.length = 0 then maxI l else 0
theorem Of_tot {w : World} {v : Value} {l : List Int} (h : IntsAt w v l) (hs : Sm l) : Calls Try.prog 11 #[v] w fun e w' => ∃ f g, e = .returned (.tuple #[.agg #[.int .i64 (ofA l), .int .i64 (ofB l), .int .i64 (ofC l), .float .f64 f, .float .f64 g], .int .i64 (ofE l.length)]) ∧ Below w.heap.size w w' := by
  by_cases hb : 4096 < l.length ∨ l.length = 0
  · refine (Of_bad h hb).mono ?_
    rintro e w' ⟨rfl, hb'⟩
    have hE : ofE l.length ≠ 0 := by
      unfold ofE
      rcases hb with hb | hb
      · rw [if_pos hb]; decide
      · rw [hb]; decide
    refine ⟨0, 0, ?_, hb'⟩
    unfold ofA ofB ofC
    rw [if_neg hE, if_neg hE, if_neg hE]
  · refine (Of_ok h hs (by omega) (by omega)).mono ?_
    rintro e w' ⟨rfl, hb'⟩
    have hE : ofE l.length = 0 := by unfold ofE; rw [if_neg (by omega), if_neg (by omega)]
    refine ⟨meanF l, devF l (meanF l), ?_, hb'⟩
    unfold ofA ofB ofC
    rw [if_pos hE, if_pos hE, if_pos hE, hE]

/-! backwards -/
theorem sorted_eq : ∀ {a b : List Int}, a.Perm b → a.Pairwise (· ≤ ·) → b.Pairwise (· ≤ ·) → a = b
  | [], b, h, _, _ => (List.nil_perm.1 h).symm
  | x :: a, [], h, _, _ => absurd (List.perm_nil.1 h) (by simp)
  | x :: a, y :: b, h, ha, hb => by
    have e : x = y := by
      refine Int.le_antisymm ?_ ?_
      · rcases List.mem_cons.1 (h.mem_iff.2 (show y ∈ y :: b by simp)) with h1 | h1
        · omega
        · exact List.rel_of_pairwise_cons ha h1
      · rcases List.mem_cons.1 (h.mem_iff.1 (show x ∈ x :: a by simp)) with h1 | h1
        · omega
        · exact List.rel_of_pairwise_cons hb h1
    subst e
    rw [sorted_eq (List.Perm.cons_inv h) ha.of_cons hb.of_cons]
theorem srt_rev (l : List Int) : srt l.reverse = srt l := sorted_eq (((srt_perm _).trans (List.reverse_perm l)).trans (srt_perm l).symm) (srt_sorted _) (srt_sorted _)
theorem barsL_rev (l es : List Int) : barsL l.reverse es = barsL l es := by
  unfold barsL
  refine List.map_congr_left fun i _ => ?_
  rw [(List.reverse_perm l).countP_eq]
theorem barE_rev (l es : List Int) : barE l.reverse es = barE l es := by unfold barE; rw [List.length_reverse]
theorem barO_rev (l es : List Int) : barO l.reverse es = barO l es := by unfold barO; rw [barE_rev, barsL_rev]
theorem shE_rev (l : List Int) (p : Nat) : shE l.reverse p = shE l p := by unfold shE; rw [List.length_reverse]
theorem ShR_rev {l : List Int} {p : Nat} {r : Int} (h : ShR l.reverse p r) : ShR l p r := by
  unfold ShR at h ⊢
  unfold ShP at h ⊢
  rw [shE_rev, List.length_reverse, srt_rev] at h
  exact h
theorem maxI_rev {l : List Int} (h : 0 < l.length) : maxI l.reverse = maxI l := by
  have a := maxI_spec (l := l.reverse) (by simpa using h)
  have b := maxI_spec h
  exact Int.le_antisymm (b.2 _ (by simpa using a.1)) (a.2 _ (by simpa using b.1))
theorem minI_rev {l : List Int} (h : 0 < l.length) : minI l.reverse = minI l := by
  have a := minI_spec (l := l.reverse) (by simpa using h)
  have b := minI_spec h
  exact Int.le_antisymm (a.2 _ (by simpa using b.1)) (b.2 _ (by simpa using a.1))
theorem of_rev (l : List Int) : ofA l.reverse = ofA l ∧ ofB l.reverse = ofB l ∧ ofC l.reverse = ofC l := by
  unfold ofA ofB ofC
  rw [List.length_reverse]
  by_cases h : ofE l.length = 0
  · have h0 : 0 < l.length := by
      rcases Nat.eq_zero_or_pos l.length with e | e
      · rw [e] at h; exact absurd h (by decide)
      · exact e
    rw [if_pos h, if_pos h, if_pos h, minI_rev h0, maxI_rev h0]
    simp only [if_pos h]
    exact ⟨trivial, trivial, trivial⟩
  · rw [if_neg h, if_neg h, if_neg h]
    simp only [if_neg h]
    exact ⟨trivial, trivial, trivial⟩
end Go.Proofs.Ytkaigmoeagjjgaa

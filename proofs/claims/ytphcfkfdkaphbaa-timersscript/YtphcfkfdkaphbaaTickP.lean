import Derived.Test.YtphcfkfdkaphbaaTabS
namespace Go.Proofs.Ytphcfkfdkaphbaa
open Go.RowKit
open Go.Maps (Keyed)
set_option linter.unusedVariables false

/-- A tick on its way: the map as it came, who is still to come, the map as it is, who was told. -/
structure TickR (D0 : DataW Unit) (left : Lit → Bool) (Dr : DataW Unit) (ss : List Lit) : Prop where
  has : ∀ kl, Maps.has Dr kl = if left kl then Maps.has D0 kl else (Maps.has D0 kl && decide (1 < leftD D0 kl))
  val : ∀ kl, Maps.has Dr kl = true → leftD Dr kl = if left kl then leftD D0 kl else leftD D0 kl - 1
  told : ∀ kl, kl ∈ ss ↔ (Maps.has D0 kl = true ∧ left kl = false ∧ leftD D0 kl ≤ 1)
  nodup : ss.Nodup
  lt : ∀ kl, left kl = true → Maps.has D0 kl = true
  size : Maps.size Dr + ss.length ≤ Maps.size D0

theorem TickR.start (D : DataW Unit) : TickR D (Maps.has D) D [] := by
  refine ⟨fun kl => ?_, fun kl h => ?_, fun kl => ?_, List.nodup_nil, fun kl h => h, by simp⟩
  · cases h : Maps.has D kl <;> simp
  · rw [if_pos h]
  · constructor
    · intro h; cases h
    · rintro ⟨h1, h2, _⟩; rw [h1] at h2; cases h2

theorem has_struck {left : Lit → Bool} {kl : Lit} (hk : WideAt.IsKeyLit kl) : (left kl && !kl.sameKey kl) = false := by
  rw [WideAt.sameKey_self hk]; simp
theorem left_struck {left : Lit → Bool} {kl x : Lit} (h : x ≠ kl) : (left x && !x.sameKey kl) = left x := by
  rw [Maps.sameKey_ne h]; simp

theorem leftD_put_same {D : DataW Unit} {kl : Lit} (hD : Maps.IsMap D) (hk : WideAt.IsKeyLit kl) (q : IntKind) (c : Int) : leftD (D.put kl (.lit (.int q c))) kl = c := by
  unfold leftD; rw [Maps.atKey_put_same hD hk]
theorem leftD_put_other {D : DataW Unit} {kl x : Lit} (h : x ≠ kl) (d : DataW Unit) : leftD (D.put kl d) x = leftD D x := by
  unfold leftD; rw [Maps.atKey_put_other h]
theorem leftD_del_other {D : DataW Unit} {kl x : Lit} (h : x ≠ kl) : leftD (D.del kl) x = leftD D x := by
  unfold leftD; rw [Maps.atKey_del_other h]

/-- One that is left more than a tick. -/
theorem TickR.less {D0 Dr : DataW Unit} {left : Lit → Bool} {ss : List Lit} (h : TickR D0 left Dr ss) (ht : Maps.Tidy Dr) {kl : Lit} (hk : WideAt.IsKeyLit kl) (hl : left kl = true) (hc : 1 < leftD D0 kl) : TickR D0 (fun x => left x && !x.sameKey kl) (Dr.put kl (.lit (.int .i64 (leftD D0 kl - 1)))) ss := by
  have hhas : Maps.has Dr kl = true := by rw [h.has, if_pos hl]; exact h.lt kl hl
  refine ⟨fun x => ?_, fun x hx => ?_, fun x => ?_, h.nodup, fun x hx => h.lt x (by simp at hx; exact hx.1), ?_⟩
  · by_cases e : x = kl
    · subst e
      rw [Maps.has_put_same ht.isMap hk]
      simp only [has_struck hk, h.lt x hl, Bool.true_and]
      simp [hc]
    · rw [Maps.has_put_other e]
      simp only [left_struck e]
      exact h.has x
  · by_cases e : x = kl
    · subst e
      rw [leftD_put_same ht.isMap hk]
      simp only [has_struck hk]
      simp
    · rw [leftD_put_other e]
      simp only [left_struck e]
      exact h.val x (by rw [Maps.has_put_other e] at hx; exact hx)
  · by_cases e : x = kl
    · subst e
      simp only [has_struck hk]
      constructor
      · intro hm
        have := (h.told x).1 hm
        rw [hl] at this
        cases this.2.1
      · rintro ⟨_, _, h3⟩
        omega
    · simp only [left_struck e]
      exact h.told x
  · rw [Maps.size_put ht, if_pos hhas]
    exact h.size

/-- One that runs out. -/
theorem TickR.out {D0 Dr : DataW Unit} {left : Lit → Bool} {ss : List Lit} (h : TickR D0 left Dr ss) (ht : Maps.Tidy Dr) {kl : Lit} (hk : WideAt.IsKeyLit kl) (hl : left kl = true) (hc : leftD D0 kl ≤ 1) : TickR D0 (fun x => left x && !x.sameKey kl) (Dr.del kl) (ss ++ [kl]) := by
  have hhas : Maps.has Dr kl = true := by rw [h.has, if_pos hl]; exact h.lt kl hl
  have hni : kl ∉ ss := fun hm => by
    have := (h.told kl).1 hm
    rw [hl] at this
    cases this.2.1
  refine ⟨fun x => ?_, fun x hx => ?_, fun x => ?_, ?_, fun x hx => h.lt x (by simp at hx; exact hx.1), ?_⟩
  · by_cases e : x = kl
    · subst e
      rw [Maps.has_del_same]
      simp only [has_struck hk]
      have : decide (1 < leftD D0 x) = false := decide_eq_false (by omega)
      simp [this]
    · rw [Maps.has_del_other e]
      simp only [left_struck e]
      exact h.has x
  · by_cases e : x = kl
    · subst e
      rw [Maps.has_del_same] at hx
      cases hx
    · rw [leftD_del_other e]
      simp only [left_struck e]
      exact h.val x (by rw [Maps.has_del_other e] at hx; exact hx)
  · by_cases e : x = kl
    · subst e
      simp only [has_struck hk]
      exact ⟨fun _ => ⟨h.lt x hl, by simp, hc⟩, fun _ => by simp⟩
    · simp only [left_struck e]
      rw [← h.told x]
      simp [e]
  · rw [List.nodup_append]
    refine ⟨h.nodup, by simp, fun a ha b hb e => ?_⟩
    simp at hb
    subst hb
    subst e
    exact hni ha
  · have h1 := Maps.size_del ht (k := kl)
    rw [if_pos hhas] at h1
    have h2 := h.size
    rw [List.length_append, List.length_singleton]
    omega

/-- A loop over a map, as a part. -/
def itC (K b r n : Nat) (D : DataW Unit) (left : Lit → Bool) (cnt : Nat) : Comp := ⟨fun w => w.ranges Try.prog K rE b r n D left cnt, [b, r]⟩
theorem itC_good (K b r n : Nat) (D : DataW Unit) (left : Lit → Bool) (cnt : Nat) : (itC K b r n D left cnt).Good := by
  rintro w w' ⟨es, clock, since, seen, c0, hb, F, hs, hD, hr, rest⟩ hl hk
  exact ⟨es, clock, since, seen, c0, (hk b (by simp [itC])).trans hb, F, hs, hD, (hk r (by simp [itC])).trans hr, rest⟩

theorem All.it_turn {K b r n : Nat} {D D' : DataW Unit} {left left' : Lit → Bool} {cnt cnt' : Nat} {cs : List Comp} {w w' : World} {j : Nat} (h : All (itC K b r n D left cnt :: cs) w) (hj : j = b ∨ j = r) (hg : w.grownBy w' (some j)) (hr : w'.ranges Try.prog K rE b r n D' left' cnt') : All (itC K b r n D' left' cnt' :: cs) w' := by
  refine h.turn ((grown_fr hg).mono (fun k hk => by simp at hk; subst hk; rcases hj with rfl | rfl <;> simp [itC])) (itC_good _ _ _ _ _ _ _) hr (fun k hk => Or.inl (by simpa [itC] using hk)) (fun k hk => ?_)
  have hk' : k = b ∨ k = r := by simpa [itC] using hk
  rcases hk' with rfl | rfl
  · exact hr.owns.lt
  · exact hr.lt

/-- The loop begins. -/
theorem All.it_start {P b n : Nat} {D : DataW Unit} {cs : List Comp} {w w' : World} (h : All (tabS P b n D :: cs) w) (hg : w.grownBy w' none) (hs : w'.heap.size = w.heap.size + 1) (hr : w'.ranges Try.prog 9 rE b w.heap.size n D (Maps.has D) (Maps.size D)) : All (itC 9 b w.heap.size n D (Maps.has D) (Maps.size D) :: blkC P [.map (some b)] 92 :: cs) w' := by
  obtain ⟨h1, h2, h3⟩ := tabS_lt h
  have hbel : Below w.heap.size w w' := ⟨hg.os, hg.tape, hg.output, hg.size, fun k hk => hg.block k hk (by simp)⟩
  have h' := h.later hbel
  have hnew : ∀ d ∈ cs, w.heap.size ∉ d.fp := fun d hd hk => by
    have := (h.2.2.mem hd).2.2 _ hk
    omega
  refine ⟨⟨itC_good _ _ _ _ _ _ _, hr, fun k hk => ?_⟩, fun d hd k hk hkd => ?_, ⟨blkC_good _ _ _, h'.1.2.1.1, fun k hk => ?_⟩, fun d hd k hk hkd => ?_, h'.2.2⟩
  · have hk' : k = b ∨ k = w.heap.size := by simpa [itC] using hk
    rcases hk' with rfl | rfl <;> omega
  · have hk' : k = b ∨ k = w.heap.size := by simpa [itC] using hk
    rcases List.mem_cons.1 hd with rfl | hd'
    · have : k = P := by simpa [blkC] using hkd
      rcases hk' with rfl | rfl
      · exact h3 this.symm
      · omega
    · rcases hk' with rfl | rfl
      · exact h.2.1 d hd' k (by simp [tabS]) hkd
      · exact hnew d hd' hkd
  · have : k = P := by simpa [blkC] using hk
    omega
  · have : k = P := by simpa [blkC] using hk
    subst this
    exact h.2.1 d hd k (by simp [tabS]) hkd

/-- The loop is over. -/
theorem All.it_end {P b r n : Nat} {D : DataW Unit} {left : Lit → Bool} {cnt : Nat} {cs : List Comp} {w : World} (h : All (itC 9 b r n D left cnt :: blkC P [.map (some b)] 92 :: cs) w) : All (tabS P b n D :: cs) w := by
  obtain ⟨⟨g1, h1, l1⟩, d1, ⟨g2, h2, l2⟩, d2, h3⟩ := h
  refine ⟨⟨tabS_good _ _ _ _, ⟨h2, h1.owns⟩, fun k hk => ?_⟩, fun d hd k hk hkd => ?_, h3⟩
  · have hk' : k = P ∨ k = b := by simpa [tabS] using hk
    rcases hk' with rfl | rfl
    · exact l2 _ (by simp [blkC])
    · exact l1 _ (by simp [itC])
  · have hk' : k = P ∨ k = b := by simpa [tabS] using hk
    rcases hk' with rfl | rfl
    · exact d2 d hd _ (by simp [blkC]) hkd
    · exact d1 d (by simp [hd]) _ (by simp [itC]) hkd
end Go.Proofs.Ytphcfkfdkaphbaa

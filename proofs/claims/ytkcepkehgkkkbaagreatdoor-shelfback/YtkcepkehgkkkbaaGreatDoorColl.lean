import Derived.Test.YtkcepkehgkkkbaaGreatDoorSort1
namespace Go.Proofs.YtkcepkehgkkkbaaGreatDoor
open Go.RowKit
open Go.Maps (Keyed)
set_option linter.unusedVariables false

abbrev encStr (x : List UInt8) : Value := .string (strB x)
/-- Groups as they lie in a list. -/
def cellsG (gs : List (List UInt8 × Int)) : List Value := gs.flatMap fun g => [encStr g.1, .int .i64 g.2]
def rowG (v : Value) (gs : List (List UInt8 × Int)) : Comp := ⟨fun w => w.ownsRow 0 164 2 v gs.length (cellsG gs), v.ownBlock.toList⟩
theorem rowG_good (v : Value) (gs : List (List UInt8 × Int)) : (rowG v gs).Good := by
  rintro w w' ⟨h1, h2⟩ hl hk
  refine ⟨h1, h2.imp id ?_⟩
  rintro ⟨g, cap, cur, rfl, hb, hg, r⟩
  exact ⟨g, cap, cur, rfl, hb, (hk g (by simp [rowG, Value.ownBlock])).trans hg, r⟩
theorem All.addNilG {cs : List Comp} {w : World} (h : All cs w) : All (rowG (.slice none 0 0) [] :: cs) w :=
  ⟨⟨rowG_good _ _, ⟨by simp [cellsG], Or.inl ⟨rfl, rfl⟩⟩, fun k hk => by simp [rowG, Value.ownBlock] at hk⟩, fun d hd k hk => by simp [rowG, Value.ownBlock] at hk, h⟩
theorem owns_zero2 {w : World} {base : Nat} {v : Value} {n : Nat} {xs : List Value} (h : w.ownsRow base 164 2 v n xs) : w.ownsRow 0 164 2 v n xs := owns_zero h
theorem All.growG {v v' : Value} {gs gs' : List (List UInt8 × Int)} {cs : List Comp} {w w1 : World} {base : Nat} (h : All (rowG v gs :: cs) w) (hown : w1.ownsRow base 164 2 v' gs'.length (cellsG gs')) (hg : w.grownBy w1 v.ownBlock) (hat : v'.ownBlock = v.ownBlock ∨ v'.ownBlock = some w.heap.size) : All (rowG v' gs' :: cs) w1 := by
  have ho' := owns_zero2 hown
  refine h.turn ((grown_fr hg).mono (fun k hk => by simpa [rowG] using hk)) (rowG_good _ _) ho' (fun k hk => ?_) (fun k hk => ?_)
  · have hk' : v'.ownBlock = some k := by simpa [rowG] using hk
    rcases hat with e1 | e1
    · exact Or.inl (by simp [rowG, ← e1, hk'])
    · rw [e1] at hk'; simp at hk'; exact Or.inr (by omega)
  · have hk' : v'.ownBlock = some k := by simpa [rowG] using hk
    exact (ho'.lt k hk').2

/-- A loop over a map, as a part. -/
def itC (b r n : Nat) (D : DataW Unit) (left : Lit → Bool) (cnt : Nat) : Comp := ⟨fun w => w.ranges Tryz.prog 9 rE b r n D left cnt, [b, r]⟩
theorem itC_good (b r n : Nat) (D : DataW Unit) (left : Lit → Bool) (cnt : Nat) : (itC b r n D left cnt).Good := by
  rintro w w' ⟨es, clock, since, seen, c0, hb, F, hs, hD, hr, rest⟩ hl hk
  exact ⟨es, clock, since, seen, c0, (hk b (by simp [itC])).trans hb, F, hs, hD, (hk r (by simp [itC])).trans hr, rest⟩
theorem All.it_turn {b r n : Nat} {D D' : DataW Unit} {left left' : Lit → Bool} {cnt cnt' : Nat} {cs : List Comp} {w w' : World} {j : Nat} (h : All (itC b r n D left cnt :: cs) w) (hj : j = b ∨ j = r) (hg : w.grownBy w' (some j)) (hr : w'.ranges Tryz.prog 9 rE b r n D' left' cnt') : All (itC b r n D' left' cnt' :: cs) w' := by
  refine h.turn ((grown_fr hg).mono (fun k hk => by simp at hk; subst hk; rcases hj with rfl | rfl <;> simp [itC])) (itC_good _ _ _ _ _ _) hr (fun k hk => Or.inl (by simpa [itC] using hk)) (fun k hk => ?_)
  have hk' : k = b ∨ k = r := by simpa [itC] using hk
  rcases hk' with rfl | rfl
  · exact hr.owns.lt
  · exact hr.lt
/-- The loop begins. -/
theorem All.it_start {b n : Nat} {D : DataW Unit} {cs : List Comp} {w w' : World} (h : All (mapC b n D :: cs) w) (hg : w.grownBy w' none) (hs : w'.heap.size = w.heap.size + 1) (hr : w'.ranges Tryz.prog 9 rE b w.heap.size n D (Maps.has D) (Maps.size D)) : All (itC b w.heap.size n D (Maps.has D) (Maps.size D) :: cs) w' := by
  have hbel : Below w.heap.size w w' := ⟨hg.os, hg.tape, hg.output, hg.size, fun k hk => hg.block k hk (by simp)⟩
  have h' := h.later hbel
  have hb : b < w.heap.size := h.1.2.2 b (by simp [mapC])
  refine ⟨⟨itC_good _ _ _ _ _ _, hr, fun k hk => ?_⟩, fun d hd k hk hkd => ?_, h'.2.2⟩
  · have hk' : k = b ∨ k = w.heap.size := by simpa [itC] using hk
    rcases hk' with rfl | rfl <;> omega
  · have hk' : k = b ∨ k = w.heap.size := by simpa [itC] using hk
    rcases hk' with rfl | rfl
    · exact h.2.1 d hd k (by simp [mapC]) hkd
    · have := (h.2.2.mem hd).2.2 _ hkd
      omega
/-- The loop is over. -/
theorem All.it_end {b r n : Nat} {D : DataW Unit} {left : Lit → Bool} {cnt : Nat} {cs : List Comp} {w : World} (h : All (itC b r n D left cnt :: cs) w) : All (mapC b n D :: cs) w := by
  obtain ⟨⟨g1, h1, l1⟩, d1, h3⟩ := h
  refine ⟨⟨mapC_good _ _ _, h1.owns, fun k hk => ?_⟩, fun d hd k hk hkd => ?_, h3⟩
  · have : k = b := by simpa [mapC] using hk
    subst this
    exact l1 _ (by simp [itC])
  · have : k = b := by simpa [mapC] using hk
    subst this
    exact d1 d hd _ (by simp [itC]) hkd

theorem has_struck {left : Lit → Bool} {kl : Lit} (hk : WideAt.IsKeyLit kl) : (left kl && !kl.sameKey kl) = false := by
  rw [WideAt.sameKey_self hk]; simp
theorem left_struck {left : Lit → Bool} {kl x : Lit} (h : x ≠ kl) : (left x && !x.sameKey kl) = left x := by
  rw [Maps.sameKey_ne h]; simp

/-- The entries that have been told so far. -/
structure Coll (D : DataW Unit) (left : Lit → Bool) (cnt : Nat) (gs : List (List UInt8 × Int)) : Prop where
  mem : ∀ x c, (x, c) ∈ gs ↔ (Maps.has D (.string x) = true ∧ left (.string x) = false ∧ c = leftD D (.string x))
  nodup : (gs.map Prod.fst).Nodup
  lt : ∀ kl, left kl = true → Maps.has D kl = true
  size : gs.length + cnt ≤ Maps.size D

theorem Coll.start (D : DataW Unit) : Coll D (Maps.has D) (Maps.size D) [] := by
  refine ⟨fun x c => ?_, List.nodup_nil, fun kl h => h, by simp⟩
  constructor
  · intro h; cases h
  · rintro ⟨h1, h2, _⟩; rw [h1] at h2; cases h2
theorem Coll.next {D : DataW Unit} {left : Lit → Bool} {cnt cnt' : Nat} {gs : List (List UInt8 × Int)} (h : Coll D left cnt gs) {x : List UInt8} (hk : WideAt.IsKeyLit (.string x)) (hl : left (.string x) = true) (hc : cnt' < cnt) : Coll D (fun z => left z && !z.sameKey (.string x)) cnt' (gs ++ [(x, leftD D (.string x))]) := by
  have hni : ∀ c, (x, c) ∉ gs := fun c hm => by
    have := ((h.mem x c).1 hm).2.1
    rw [hl] at this
    cases this
  refine ⟨fun y c => ?_, ?_, fun z hz => h.lt z (by simp at hz; exact hz.1), ?_⟩
  · rw [List.mem_append, List.mem_singleton]
    by_cases e : y = x
    · subst e
      simp only [has_struck hk, Prod.mk.injEq, true_and]
      constructor
      · rintro (hm | rfl)
        · exact absurd hm (hni c)
        · exact ⟨h.lt _ hl, rfl⟩
      · rintro ⟨_, rfl⟩
        exact Or.inr rfl
    · have e' : Lit.string y ≠ .string x := fun h => e (by injection h)
      simp only [left_struck e', Prod.mk.injEq, e, false_and, or_false]
      exact h.mem y c
  · rw [List.map_append, List.nodup_append]
    refine ⟨h.nodup, by simp, fun a ha b hb eab => ?_⟩
    simp at hb
    subst hb
    subst eab
    obtain ⟨p, hp, e⟩ := List.mem_map.1 ha
    exact hni p.2 (by rw [← e]; exact hp)
  · have := h.size
    rw [List.length_append, List.length_singleton]
    omega

/-- Just one entry. -/
theorem Coll.one {D : DataW Unit} {cnt : Nat} {gs : List (List UInt8 × Int)} (h : Coll D (fun _ => false) cnt gs) {x0 : List UInt8} (hD : ∀ x, Maps.has D (.string x) = true ↔ x = x0) : gs = [(x0, leftD D (.string x0))] := by
  have hall : ∀ g ∈ gs, g = (x0, leftD D (.string x0)) := by
    rintro ⟨x, c⟩ hm
    obtain ⟨h1, _, h3⟩ := (h.mem x c).1 hm
    have := (hD x).1 h1
    subst this
    rw [h3]
  have hin : (x0, leftD D (.string x0)) ∈ gs := (h.mem _ _).2 ⟨(hD x0).2 rfl, rfl, rfl⟩
  cases gs with
  | nil => cases hin
  | cons g gs =>
    have hg := hall g (by simp)
    subst hg
    cases gs with
    | nil => rfl
    | cons g' gs =>
      have hg' := hall g' (by simp)
      subst hg'
      have := h.nodup
      simp at this
end Go.Proofs.YtkcepkehgkkkbaaGreatDoor

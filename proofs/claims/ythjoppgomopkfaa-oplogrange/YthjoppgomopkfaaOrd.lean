import Derived.Test.YthjoppgomopkfaaRound
namespace Go.Proofs.Ythjoppgomopkfaa
open Go.RowKit
set_option linter.unusedVariables false

section
variable {F : Fence} {n : Nat} {P : Program} {ops : Array Oper} {Q : Exit → Act → World → Prop}

/-- A region that draws its order, by what holds of the operations that have come (in whatever order). -/
theorem any_inv (Inv : (Nat → Bool) → Act → World → Prop)
    (hstep : ∀ (G : Nat → Bool) (i : Nat) (o : Oper) (a : Act) (w : World), ops[i]? = some o → G i = false → (∀ e ∈ o.after, Region.binds .any e = true → G e.on = true) → Inv G a w → wpOpIn F n P ops Q i (fun a' w' => Inv (fun j => if j = i then true else G j) a' w') a w)
    (hdone : ∀ (G : Nat → Bool) (a : Act) (w : World), (∀ j, j < ops.size → G j = true) → Inv G a w → Q .normal a w)
    (hlow : ∀ (i : Nat) (o : Oper), ops[i]? = some o → ∀ e ∈ o.after, Region.binds .any e = true → e.on < i) :
    ∀ (fuel : Nat) (listed : Array Bool) (a : Act) (w : World), listed.size = ops.size → listed.toList.countP (fun b => !b) ≤ fuel → Inv (fun j => listed.getD j false) a w → wpAnyIn F n P .any ops Q fuel listed a w := by
  have hall : ∀ (listed : Array Bool), listed.size = ops.size → Region.ready .any ops listed = [] → ∀ j, j < ops.size → listed.getD j false = true := by
    intro listed hs hr j
    induction j using Nat.strongRecOn with
    | _ j ih =>
      intro hj
      by_cases hb : listed.getD j false = true
      · exact hb
      · exfalso
        have hm : j ∈ Region.ready .any ops listed := mem_ready.2 ⟨by
          have hlt : j < listed.size := by omega
          simp only [Array.getD_eq_getD_getElem?, Array.getElem?_eq_getElem hlt, Option.getD_some] at hb ⊢
          simpa using hb, ops[j], Array.getElem?_eq_getElem hj, fun e he hbd => by
            have := hlow j ops[j] (Array.getElem?_eq_getElem hj) e he hbd
            exact ih e.on this (by omega)⟩
        rw [hr] at hm
        cases hm
  have hnone : ∀ (listed : Array Bool), listed.size = ops.size → listed.toList.countP (fun b => !b) = 0 → Region.ready .any ops listed = [] := by
    intro listed hs hc
    refine List.eq_nil_iff_forall_not_mem.2 fun j hj => ?_
    obtain ⟨h1, o, ho, _⟩ := mem_ready.1 hj
    have hlt : j < listed.size := by have := (Array.getElem?_eq_some_iff.1 ho).1; omega
    simp only [Array.getD_eq_getD_getElem?, Array.getElem?_eq_getElem hlt, Option.getD_some] at h1
    have := List.countP_eq_zero.1 hc listed[j] (by simp)
    rw [h1] at this
    simp at this
  intro fuel
  induction fuel with
  | zero =>
    intro listed a w hs hc hI
    have hr := hnone listed hs (by omega)
    exact ⟨hr, hdone _ a w (hall listed hs hr) hI⟩
  | succ fuel ih =>
    intro listed a w hs hc hI
    refine ⟨fun hr => hdone _ a w (hall listed hs hr) hI, fun i hi => ?_⟩
    obtain ⟨h1, o, ho, hd⟩ := mem_ready.1 hi
    have hlt : i < listed.size := by have := (Array.getElem?_eq_some_iff.1 ho).1; omega
    have h1' : listed[i] = false := by
      simp only [Array.getD_eq_getD_getElem?, Array.getElem?_eq_getElem hlt, Option.getD_some] at h1
      exact h1
    have h2 := hstep (fun j => listed.getD j false) i o a w ho (by simp [Array.getD_eq_getD_getElem?, Array.getElem?_eq_getElem hlt, h1']) hd hI
    have hF : (fun j => if j = i then true else listed.getD j false) = fun j => (listed.setIfInBounds i true).getD j false := by
      funext j
      by_cases e : j = i
      · subst e; simp [Array.getD_eq_getD_getElem?, hlt]
      · have e' : ¬ i = j := fun h => e h.symm
        simp [Array.getD_eq_getD_getElem?, e, e']
    rw [hF] at h2
    have hc2 : (listed.setIfInBounds i true).toList.countP (fun b => !b) ≤ fuel := by
      rw [Array.toList_setIfInBounds, List.countP_set (by simpa using hlt)]
      have h3 : listed.toList[i]'(by simpa using hlt) = false := by simpa using h1'
      have h4 : 0 < listed.toList.countP (fun b => !b) := List.countP_pos_iff.2 ⟨false, by rw [← h3]; simp, rfl⟩
      simp only [h3, Bool.not_false, Bool.not_true, if_true]
      simp only [Bool.false_eq_true, if_false]
      omega
    have mono : ∀ (a' : Act) (w' : World), Inv (fun j => (listed.setIfInBounds i true).getD j false) a' w' → wpAnyIn F n P .any ops Q fuel (listed.setIfInBounds i true) a' w' := fun a' w' h => ih _ a' w' (by simpa using hs) hc2 h
    unfold wpOpIn at h2 ⊢
    rw [ho] at h2 ⊢
    simp only at h2 ⊢
    split
    · rename_i hw
      simp only [hw, if_true] at h2
      exact Oper.wpIn_mono mono h2
    · rename_i hw
      simp only [hw] at h2
      exact ⟨h2.1, mono _ _ h2.2⟩

theorem region_inv {id : Nat} {a : Act} {w : World} (hm : P.follows .mixedOrders = true) (Inv : (Nat → Bool) → Act → World → Prop)
    (hlow : ∀ (i : Nat) (o : Oper), ops[i]? = some o → ∀ e ∈ o.after, Region.binds .any e = true → e.on < i)
    (h0 : Inv (fun _ => false) a w.drew)
    (hstep : ∀ (G : Nat → Bool) (i : Nat) (o : Oper) (a : Act) (w : World), ops[i]? = some o → G i = false → (∀ e ∈ o.after, Region.binds .any e = true → G e.on = true) → Inv G a w → wpOpIn F n P ops Q i (fun a' w' => Inv (fun j => if j = i then true else G j) a' w') a w)
    (hdone : ∀ (G : Nat → Bool) (a : Act) (w : World), (∀ j, j < ops.size → G j = true) → Inv G a w → Q .normal a w) : (Code.region id ops true).wpIn F n P Q a w := by
  refine wpIn_region_any hm (any_inv Inv hstep hdone hlow _ _ _ _ (by simp) (by have := List.countP_le_length (p := fun b => !b) (l := (Array.replicate ops.size false).toList); simpa using this) ?_)
  have e : (fun j => (Array.replicate ops.size false).getD j false) = fun _ => false := by
    funext j
    simp [Array.getD_eq_getD_getElem?, Array.getElem?_replicate]
    split <;> rfl
  rw [e]
  exact h0

/-- The order of the text serves as an order: each operation waits for earlier ones alone. -/
def lowB (l : List Oper) : Bool := (List.range l.length).all fun i => match l[i]? with | none => true | some o => o.after.toList.all fun e => decide (e.on < i)
theorem lowB_spec {l : List Oper} (h : lowB l = true) : ∀ (i : Nat) (o : Oper), l.toArray[i]? = some o → ∀ e ∈ o.after, Region.binds .any e = true → e.on < i := by
  intro i o ho e he _
  rw [List.getElem?_toArray] at ho
  have hi := (List.getElem?_eq_some_iff.1 ho).1
  have := List.all_eq_true.1 h i (List.mem_range.2 hi)
  rw [ho] at this
  simpa using List.all_eq_true.1 this e (by simpa using he)
end
def QK (Q : Exit → Act → World → Prop) (K : Act → World → Prop) : Exit → Act → World → Prop
  | .normal, a, w => K a w
  | .ret, a, w => Q .ret a w
  | .exit i, a, w => Q (.exit i) a w
  | .goto i, a, w => Q (.goto i) a w
  | .panic c, a, w => Q (.panic c) a w
  | .outgrown, a, w => Q .outgrown a w

theorem wpOpIn_of {F : Fence} {n : Nat} {P : Program} {ops : Array Oper} {Q : Exit → Act → World → Prop} {K : Act → World → Prop} {i : Nat} {o : Oper} {a : Act} {w : World} (ho : ops[i]? = some o) (hg : o.guard = none) (h : wpListIn F n P ops (QK Q K) [o] a w) : wpOpIn F n P ops Q i K a w := by
  unfold wpOpIn
  rw [ho]
  simp only [wpListIn, Region.wanted, hg, if_true] at h ⊢
  unfold Oper.wpIn at h ⊢
  refine ⟨h.1, ?_⟩
  have h2 := h.2
  generalize (o.semAt F.round a.eval).run P w = r at *
  cases r with
  | ok y w' =>
    cases y <;> simp only [Oper.uponIn] at h2 ⊢ <;> first
      | exact h2
      | exact ⟨h2.1, h2.2.mono (fun e w'' he => by cases e <;> exact he)⟩
      | exact ⟨h2.1, h2.2⟩
  | halt y w' => cases y <;> simp only [Oper.uponIn] at h2 ⊢ <;> exact h2

end Go.Proofs.Ythjoppgomopkfaa

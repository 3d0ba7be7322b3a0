import Derived.Test.YtmpbdncgilahkaaLast
import Derived.OrdersHeld
import Derived.Deep.RegionHeld
namespace Go.Proofs.Ytmpbdncgilahkaa
open Go.RowKit Go.Sort
set_option linter.unusedVariables false

/-- What stands behind all but the last operation: the last one, and what follows. -/
def postL (P : Program) (o : Oper) (Q : Exit → Act → World → Prop) : Exit → Act → World → Prop
  | .normal, a, w => o.wp P a w (fun a w => Q .normal a w) Q
  | .ret, a, w => Q .ret a w
  | .exit i, a, w => Q (.exit i) a w
  | .goto i, a, w => Q (.goto i) a w
  | .panic c, a, w => Q (.panic c) a w
  | .outgrown, a, w => Q .outgrown a w

section
variable {P : Program} {Q : Exit → Act → World → Prop} {S : World → Prop}

theorem letsOut_postL {o : Oper} (h : LetsOut (postL P o Q)) : LetsOut Q := h

theorem wp_postL {o x : Oper} {a : Act} {w : World} {K : Act → World → Prop} (h : x.wp P a w K (postL P o Q)) : x.wp P a w K Q := by
  unfold Oper.wp at *
  generalize (execOp a.eval x).run P w = r at *
  cases r with
  | ok y w' =>
    cases y <;> simp only [Oper.upon] at h ⊢ <;> first
      | exact h
      | exact h.mono (fun e w'' he => by cases e <;> first | exact he | exact letsOut_postL he)
  | halt y w' => cases y <;> simp only [Oper.upon] at h ⊢ <;> exact h

theorem LastOK.anyP {ops ops' : Array Oper} {m : Nat} {o : Oper} (h : LastOK ops ops' m o) : ∀ (fuel : Nat) (listed : Array Bool) (a : Act) (w : World), listed.size = m + 1 → Closed ops listed → listed.getD m true = false →
    wpAny P .any ops' (postL P o Q) fuel listed a w → wpAny P .any ops Q fuel listed a w
  | 0, listed, a, w, hs, hc, hm, hq => by
    obtain ⟨j, hj⟩ := h.any_ready hs hm
    rw [← h.ready, hq.1] at hj
    cases hj
  | fuel + 1, listed, a, w, hs, hc, hm, hq => by
    refine ⟨fun h0 => ?_, fun i hi => ?_⟩
    · obtain ⟨j, hj⟩ := h.any_ready hs hm
      rw [h0] at hj; cases hj
    · have h2 := hq.2 i (h.ready.2 hi)
      by_cases him : i = m
      · subst him
        have hd := h.done hs hc hi
        have hd' : Region.ready .any ops' (listed.setIfInBounds i true) = [] := List.eq_nil_iff_forall_not_mem.2 fun j hj => by
          have := h.ready.1 hj; rw [hd] at this; cases this
        unfold wpOp at h2
        simp only [h.last', Region.wanted, nopOf, if_true] at h2
        have h4 : o.wp P a w (fun a w => Q .normal a w) Q := by
          rcases h2 with h2 | ⟨h2, _⟩
          · simp only [Oper.wp, execOp, go_sem, Oper.upon] at h2
            have h3 : wpAny P .any ops' (postL P o Q) fuel (listed.setIfInBounds i true) a w := h2
            cases fuel with
            | zero => exact h3.2
            | succ f => exact h3.1 hd'
          · exfalso
            have h5 : noRoomEvent ∈ (#[] : Array Event) := h2.1
            simp at h5
        unfold wpOp
        simp only [h.last, Region.wanted, h.ung, if_true]
        exact .inl (Oper.wp_mono (fun a w hq => wpAny_done hd hq _) h4)
      · have e1 := h.same i him
        have h3 : wpOp P ops Q i (wpAny P .any ops' (postL P o Q) fuel (listed.setIfInBounds i true)) a w := by
          unfold wpOp at h2 ⊢
          rw [e1] at h2
          cases hoi : ops[i]? with
          | none => simp only [hoi] at h2 ⊢; exact h2
          | some oi =>
            simp only [hoi] at h2 ⊢
            have hwn : Region.wanted oi (yielded ops' a.tmps) = Region.wanted oi (yielded ops a.tmps) := by
              unfold Region.wanted
              cases hg : oi.guard with
              | none => rfl
              | some g =>
                simp only
                unfold yielded
                rw [h.same g.1 (h.gd i oi g hoi hg)]
            rw [hwn] at h2
            split
            · rename_i hw
              simp only [hw, if_true] at h2
              rcases h2 with h2 | h2
              · exact .inl (wp_postL h2)
              · exact .inr ⟨h2.1, letsOut_postL h2.2⟩
            · rename_i hw
              simp only [hw] at h2
              exact h2
        refine wpOp_mono (fun a' w' hk => LastOK.anyP h fuel _ a' w' (by simpa using hs) ?_ ?_ hk) h3
        · intro j oj hj hoj e he hb
          have mono : ∀ k, listed.getD k false = true → (listed.setIfInBounds i true).getD k false = true := by
            intro k hk
            by_cases hki : i = k
            · subst hki
              have : i < listed.size := by
                by_cases hl : i < listed.size
                · exact hl
                · simp [Array.getD_eq_getD_getElem?, Array.getElem?_eq_none (Nat.le_of_not_lt hl)] at hk
              simp [Array.getD_eq_getD_getElem?, this]
            · simpa [Array.getD_eq_getD_getElem?, Array.getElem?_setIfInBounds, hki] using hk
          by_cases hji : i = j
          · subst hji
            obtain ⟨_, o2, ho2, hall⟩ := mem_ready.1 hi
            rw [ho2] at hoj; cases hoj
            exact mono _ (hall e he hb)
          · refine mono _ (hc j oj ?_ hoj e he hb)
            simpa [Array.getD_eq_getD_getElem?, Array.getElem?_setIfInBounds, hji] using hj
        · simpa [Array.getD_eq_getD_getElem?, Array.getElem?_setIfInBounds, him] using hm

/-- A region that draws its order, with calls, under what is held, and ends in one operation that waits for all others. -/
theorem last_held {id : Nat} {a : Act} {w : World} {l : List Oper} {o : Oper} (hl : l.getLast? = some o) (hm : P.follows .mixedOrders = true) (hL : lastB l = true) (hg : o.guard = none)
    (h : wpAnyH P .any (nopLast l).toArray (postL P o Q) S (nopLast l).toArray.size (Array.replicate (nopLast l).toArray.size false) a w.drew) : (Code.region id l.toArray true).wp P Q a w := by
  obtain ⟨l', rfl⟩ : ∃ l', l = l' ++ [o] := by
    obtain ⟨ys, e⟩ := List.getLast?_eq_some_iff.1 hl
    exact ⟨ys, e⟩
  have hOK := lastOK_of hL hg
  have hsz : (nopLast (l' ++ [o])).toArray.size = (l' ++ [o]).toArray.size := by rw [nopLast_append]; simp
  rw [hsz] at h
  refine wp_region_any hm (hOK.anyP _ _ _ _ (by simp) (fun j o hj => ?_) (by simp) (wpAny_of_held _ _ _ _ h))
  rw [Array.getD_eq_getD_getElem?, Array.getElem?_replicate] at hj
  split at hj <;> simp at hj
end
end Go.Proofs.Ytmpbdncgilahkaa

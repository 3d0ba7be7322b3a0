import Derived.Test.YtafickhhdemjnaaGreatDoorJ3
import Derived.Sort.QuietIn
import Derived.Lib.QuietBelowIn
import Derived.RangeFuncCalls
namespace Go.Proofs.YtafickhhdemjnaaGreatDoor
open Go.RowKit Go.Sort
set_option linter.unusedVariables false

/-- No operation of a region defers. -/
def noDefer (ops : List Oper) : Bool := ops.all fun o => match o.op with | .defer _ => false | _ => true

theorem noDefer_of {ops : List Oper} (h : noDefer ops = true) {o : Oper} (ho : o ∈ ops) : ∀ c, o.op ≠ .defer c := by
  intro c e
  have := List.all_eq_true.1 h o ho
  rw [e] at this
  cases this

theorem oper_round {F : Fence} (hro : F.round = none) {n l : Nat} {P : Program} {o : Oper} {a : Act} {w : World} {K : Act → World → Prop} {Q : Exit → Act → World → Prop} (hnd : ∀ c, o.op ≠ .defer c) (h : o.wpIn F n P a w K Q) : o.wpIn (F.inRound l) n P a w K Q := by
  unfold Oper.wpIn at *
  refine ⟨h.1, ?_⟩
  have h2 := h.2
  rw [Oper.semAt_eq _ _ _ hnd] at h2 ⊢
  generalize (execOp a.eval o).run P w = r at *
  cases r with
  | ok x w' =>
    cases x <;> simp only [Oper.uponIn] at h2 ⊢ <;> exact h2
  | halt x w' => cases x <;> simp only [Oper.uponIn] at h2 ⊢ <;> exact h2

theorem any_round {F : Fence} (hro : F.round = none) {n l : Nat} {P : Program} {md : Region.Mode} {ops : Array Oper} {Q : Exit → Act → World → Prop} (hnd : noDefer ops.toList = true) : ∀ (fuel : Nat) (listed : Array Bool) (a : Act) (w : World), wpAnyIn F n P md ops Q fuel listed a w → wpAnyIn (F.inRound l) n P md ops Q fuel listed a w := by
  intro fuel
  induction fuel with
  | zero => intro listed a w h; exact h
  | succ fuel ih =>
    intro listed a w h
    refine ⟨h.1, fun i hi => ?_⟩
    have h2 := h.2 i hi
    unfold wpOpIn at *
    cases ho : ops[i]? with
    | none => simp only [ho] at h2 ⊢; exact ih _ _ _ h2
    | some o =>
      have hmem : o ∈ ops.toList := by
        have := Array.mem_of_getElem? ho
        simpa using this
      simp only [ho] at h2 ⊢
      split
      · rename_i hw
        simp only [hw, if_true] at h2
        exact oper_round hro (noDefer_of hnd hmem) (Oper.wpIn_mono (fun a w => ih _ a w) h2)
      · rename_i hw
        simp only [hw] at h2
        exact ⟨h2.1, ih _ _ _ h2.2⟩

/-- A region that draws its order and only reads, in a round. -/
theorem quiet_round {F : Fence} {n r : Nat} {P : Program} {id : Nat} {Q : Exit → Act → World → Prop} {a : Act} {w : World} {l : List Oper} (hro : F.round = none) (hnd : noDefer l = true) (hm : P.follows .mixedOrders = true) (hB : Region.lexB .any l.toArray = true)
    (h : wpQuietIn F n P l.toArray (fun w' => ∃ n, w' = w.drewN n) (fun a' => ∀ w', (∃ n, w' = w.drewN n) → Q .normal a' w') l a) : (Code.region id l.toArray true).wpIn (F.inRound r) n P Q a w := by
  simp only [Region.lexB, Bool.and_eq_true] at hB
  refine wpIn_region_any hm (any_round hro (by simpa using hnd) _ _ _ _ (wpAnyIn_of_quiet (C := fun w' => ∃ n, w' = w.drewN n) (Q := fun a' => ∀ w', (∃ n, w' = w.drewN n) → Q .normal a' w') hro (fun _ w' hw' h => h w' hw') _ _ _ _ ⟨1, rfl⟩ ?_))
  have := wpAnyQIn_lex (F := F) (n := n) (C := fun w' => ∃ n, w' = w.drewN n) (md := .any) hB.1 l.toArray.toList 0 (Array.replicate l.toArray.size false) a (by simp) (by simpa using hB.2) (by simpa using h)
  simpa using this

/-- A region that draws its order and only reads, but for blocks that its callees lay, in a round. -/
theorem quiet_round_below {F : Fence} {n r : Nat} {P : Program} {id : Nat} {Q : Exit → Act → World → Prop} {a : Act} {w : World} {l : List Oper} (hro : F.round = none) (hnd : noDefer l = true) (hm : P.follows .mixedOrders = true) (hB : Region.lexB .any l.toArray = true)
    (h : wpQuietIn F n P l.toArray (fun w' => ∃ p : Regrown, w' = grow (redrawn w p.d) p.os) (fun a' => ∀ w', (∃ p : Regrown, w' = grow (redrawn w p.d) p.os) → Q .normal a' w') l a) : (Code.region id l.toArray true).wpIn (F.inRound r) n P Q a w := by
  simp only [Region.lexB, Bool.and_eq_true] at hB
  refine wpIn_region_any hm (any_round hro (by simpa using hnd) _ _ _ _ (wpAnyIn_of_quiet (C := fun w' => ∃ p : Regrown, w' = grow (redrawn w p.d) p.os) (Q := fun a' => ∀ w', (∃ p : Regrown, w' = grow (redrawn w p.d) p.os) → Q .normal a' w') hro (fun _ w' hw' h => h w' hw') _ _ _ _ ⟨⟨w.drawn + 1, #[]⟩, by rw [grow_empty]; rfl⟩ ?_))
  have := wpAnyQIn_lex (F := F) (n := n) (C := fun w' => ∃ p : Regrown, w' = grow (redrawn w p.d) p.os) (md := .any) hB.1 l.toArray.toList 0 (Array.replicate l.toArray.size false) a (by simp) (by simpa using hB.2) (by simpa using h)
  simpa using this
end Go.Proofs.YtafickhhdemjnaaGreatDoor

namespace Go.Proofs.YtafickhhdemjnaaGreatDoor
open Go.RowKit Go.Sort
set_option linter.unusedVariables false

/-- The last operation stands still: for the orders of those ahead of it. -/
def nopOf (o : Oper) : Oper := { o with op := .move (.const (.bool true)), dst := none, guard := none }
def nopLast : List Oper → List Oper
  | [] => []
  | [o] => [nopOf o]
  | o :: p :: l => o :: nopLast (p :: l)

/-- Everything ahead of the last operation is waited for by something behind it; nothing waits for what is behind it; the last one guards nothing. -/
def lastB (l : List Oper) : Bool :=
  (List.range (l.length - 1)).all (fun j => (List.range l.length).any fun k => decide (j < k) && ((l[k]?).map fun o => o.after.any fun e => Region.binds .any e && e.on == j).getD false)
    && (List.range l.length).all (fun k => ((l[k]?).map fun o => (o.after.all fun e => !Region.binds .any e || decide (e.on < k)) && (match o.guard with | none => true | some g => decide (g.1 + 1 < l.length))).getD false)

theorem nopLast_append : ∀ (l : List Oper) (o : Oper), nopLast (l ++ [o]) = l ++ [nopOf o]
  | [], o => rfl
  | [a], o => rfl
  | a :: b :: l, o => by
    have := nopLast_append (b :: l) o
    simp only [List.cons_append] at this ⊢
    rw [nopLast, this]

section
variable {F : Fence} {n : Nat} {P : Program} {C : World → Prop} {Q : Exit → Act → World → Prop}

theorem quiet_snoc {ops : Array Oper} {Q1 : Act → Prop} {o : Oper} : ∀ (l : List Oper) (a : Act), wpQuietIn F n P ops C Q1 l a → wpQuietIn F n P ops C Q1 (l ++ [nopOf o]) a
  | [], a, h => by
    refine ⟨fun w _ f hf => ?_, ?_⟩
    · simp [Oper.about, nopOf] at hf
    · simp only [Region.wanted, nopOf, if_true]
      refine ⟨.bool true, fun w _ => ?_, h⟩
      unfold Oper.quietAtIn
      simp only [execOp, go_sem, Oper.quietUponIn]
      exact ⟨rfl, rfl⟩
  | x :: l, a, h => by
    refine ⟨h.1, ?_⟩
    have h2 := h.2
    split
    · rename_i hw
      simp only [hw, if_true] at h2
      exact Oper.quietIn_mono (fun a => quiet_snoc l a) h2
    · rename_i hw
      simp only [hw] at h2
      exact quiet_snoc l _ h2

theorem wpQuietIn_mono {ops : Array Oper} {Q1 Q2 : Act → Prop} (h : ∀ a, Q1 a → Q2 a) : ∀ (l : List Oper) (a : Act), wpQuietIn F n P ops C Q1 l a → wpQuietIn F n P ops C Q2 l a
  | [], a, hq => h a hq
  | x :: l, a, hq => by
    refine ⟨hq.1, ?_⟩
    have h2 := hq.2
    split
    · rename_i hw
      simp only [hw, if_true] at h2
      exact Oper.quietIn_mono (fun a => wpQuietIn_mono h l a) h2
    · rename_i hw
      simp only [hw] at h2
      exact wpQuietIn_mono h l _ h2

/-- What was listed was listed behind what it waits for. -/
def Closed (ops : Array Oper) (listed : Array Bool) : Prop := ∀ j o, listed.getD j false = true → ops[j]? = some o → ∀ e ∈ o.after, Region.binds .any e = true → listed.getD e.on false = true

structure LastOK (ops ops' : Array Oper) (m : Nat) (o : Oper) : Prop where
  size : ops.size = m + 1
  size' : ops'.size = m + 1
  last : ops[m]? = some o
  last' : ops'[m]? = some (nopOf o)
  same : ∀ i, i ≠ m → ops'[i]? = ops[i]?
  dep : ∀ j, j < m → ∃ k ok, j < k ∧ ops[k]? = some ok ∧ ∃ e ∈ ok.after, Region.binds .any e = true ∧ e.on = j
  back : ∀ (k : Nat) (ok : Oper), ops[k]? = some ok → ∀ e ∈ ok.after, Region.binds .any e = true → e.on < k
  gd : ∀ (k : Nat) (ok : Oper) (g : Nat × Bool), ops[k]? = some ok → ok.guard = some g → g.1 ≠ m
  ung : o.guard = none

theorem LastOK.ready {ops ops' : Array Oper} {m : Nat} {o : Oper} (h : LastOK ops ops' m o) {j : Nat} {listed : Array Bool} : j ∈ Region.ready .any ops' listed ↔ j ∈ Region.ready .any ops listed := by
  rw [mem_ready, mem_ready]
  by_cases hj : j = m
  · subst hj
    rw [h.last, h.last']
    simp [nopOf]
  · rw [h.same j hj]

theorem LastOK.any_ready {ops ops' : Array Oper} {m : Nat} {o : Oper} (h : LastOK ops ops' m o) {listed : Array Bool} (hs : listed.size = m + 1) (hm : listed.getD m true = false) : ∃ j, j ∈ Region.ready .any ops listed := by
  have key : ∀ k, k ≤ m → listed.getD k true = false → ∃ j, j ∈ Region.ready .any ops listed := by
    intro k
    induction k using Nat.strongRecOn with
    | _ k ih =>
      intro hk hun
      by_cases hall : ∃ j, j < k ∧ listed.getD j true = false
      · obtain ⟨j, hj, hju⟩ := hall
        exact ih j hj (by omega) hju
      · have hlt : k < ops.size := by rw [h.size]; omega
        refine ⟨k, mem_ready.2 ⟨hun, ops[k], Array.getElem?_eq_getElem hlt, fun e he hb => ?_⟩⟩
        have hb2 := h.back k _ (Array.getElem?_eq_getElem hlt) e he hb
        have : listed.getD e.on true ≠ false := fun hc => hall ⟨e.on, hb2, hc⟩
        have hl2 : e.on < listed.size := by omega
        simp only [Array.getD_eq_getD_getElem?, Array.getElem?_eq_getElem hl2, Option.getD_some] at this ⊢
        simpa using this
  exact key m (Nat.le_refl _) hm

theorem LastOK.all {ops ops' : Array Oper} {m : Nat} {o : Oper} (h : LastOK ops ops' m o) {listed : Array Bool} (hs : listed.size = m + 1) (hc : Closed ops listed) (hm : m ∈ Region.ready .any ops listed) : ∀ d j, j + d + 1 = m → listed.getD j false = true := by
  intro d
  induction d using Nat.strongRecOn with
  | _ d ih =>
    intro j hj
    obtain ⟨k, ok, hjk, hok, e, he, hb, heq⟩ := h.dep j (by omega)
    have hkm : k ≤ m := by have := (Array.getElem?_eq_some_iff.1 hok).1; rw [h.size] at this; omega
    by_cases hk : k = m
    · subst hk
      obtain ⟨_, o2, ho2, hall⟩ := mem_ready.1 hm
      rw [ho2] at hok; cases hok
      rw [← heq]; exact hall e he hb
    · have := ih (m - 1 - k) (by omega) k (by omega)
      rw [← heq]; exact hc k ok this hok e he hb

theorem LastOK.done {ops ops' : Array Oper} {m : Nat} {o : Oper} (h : LastOK ops ops' m o) {listed : Array Bool} (hs : listed.size = m + 1) (hc : Closed ops listed) (hm : m ∈ Region.ready .any ops listed) : Region.ready .any ops (listed.setIfInBounds m true) = [] := by
  refine List.eq_nil_iff_forall_not_mem.2 fun j hj => ?_
  obtain ⟨hun, oj, hoj, _⟩ := mem_ready.1 hj
  have hlt := (Array.getElem?_eq_some_iff.1 hoj).1
  rw [h.size] at hlt
  by_cases hjm : j = m
  · subst hjm
    simp [Array.getD_eq_getD_getElem?, hs] at hun
  · have h1 := h.all hs hc hm (m - 1 - j) j (by omega)
    have hl : j < listed.size := by omega
    simp only [Array.getD_eq_getD_getElem?, Array.getElem?_setIfInBounds, Array.getElem?_eq_getElem hl, if_neg (Ne.symm hjm), Option.getD_some] at hun h1
    rw [h1] at hun; cases hun

theorem LastOK.any {ops ops' : Array Oper} {m : Nat} {o : Oper} (h : LastOK ops ops' m o) (hro : F.round = none) : ∀ (fuel : Nat) (listed : Array Bool) (a : Act) (w : World), C w → listed.size = m + 1 → Closed ops listed → listed.getD m true = false →
    wpAnyQIn F n P .any ops' C (fun a' => ∀ w', C w' → o.wpIn F n P a' w' (fun a w => Q .normal a w) Q) fuel listed a → wpAnyIn F n P .any ops Q fuel listed a w
  | 0, listed, a, w, hw, hs, hc, hm, hq => by
    obtain ⟨j, hj⟩ := h.any_ready hs hm
    rw [← h.ready, hq.1] at hj
    cases hj
  | fuel + 1, listed, a, w, hw, hs, hc, hm, hq => by
    refine ⟨fun h0 => ?_, fun i hi => ?_⟩
    · obtain ⟨j, hj⟩ := h.any_ready hs hm
      rw [h0] at hj; cases hj
    · have h2 := hq.2 i (h.ready.2 hi)
      by_cases him : i = m
      · subst him
        have hd := h.done hs hc hi
        have hd' : Region.ready .any ops' (listed.setIfInBounds i true) = [] := List.eq_nil_iff_forall_not_mem.2 fun j hj => by
          have := h.ready.1 hj; rw [hd] at this; cases this
        unfold qOpIn at h2
        simp only [h.last', Region.wanted, nopOf, if_true] at h2
        obtain ⟨_, v, _, h3⟩ := h2
        have h4 : ∀ w', C w' → o.wpIn F n P a w' (fun a w => Q .normal a w) Q := by
          cases fuel with
          | zero => exact h3.2
          | succ f => exact h3.1 hd'
        unfold wpOpIn
        simp only [h.last, Region.wanted, h.ung, if_true]
        exact Oper.wpIn_mono (fun a w hq => wpAnyIn_done hd hq _) (h4 w hw)
      · have e1 := h.same i him
        have h3 : qOpIn F n P ops C i (wpAnyQIn F n P .any ops' C (fun a' => ∀ w', C w' → o.wpIn F n P a' w' (fun a w => Q .normal a w) Q) fuel (listed.setIfInBounds i true)) a := by
          unfold qOpIn at h2 ⊢
          rw [e1] at h2
          cases hoi : ops[i]? with
          | none => simp only [hoi] at h2 ⊢; exact h2
          | some oi =>
            simp only [hoi] at h2 ⊢
            have hwn : Region.wanted oi (yielded ops' a.tmps) = Region.wanted oi (yielded ops a.tmps) := by
              unfold Region.wanted
              cases hg : oi.guard with
              | none => rfl
              | some g =>
                simp only
                unfold yielded
                rw [h.same g.1 (h.gd i oi g hoi hg)]
            rw [hwn] at h2
            exact h2
        refine wpOpIn_of_qOpIn hro hw (fun a' w' hw' hk => LastOK.any h hro fuel _ a' w' hw' (by simpa using hs) ?_ ?_ hk) h3
        · intro j oj hj hoj e he hb
          have mono : ∀ k, listed.getD k false = true → (listed.setIfInBounds i true).getD k false = true := by
            intro k hk
            by_cases hki : i = k
            · subst hki
              have : i < listed.size := by
                by_cases hl : i < listed.size
                · exact hl
                · simp [Array.getD_eq_getD_getElem?, Array.getElem?_eq_none (Nat.le_of_not_lt hl)] at hk
              simp [Array.getD_eq_getD_getElem?, this]
            · simpa [Array.getD_eq_getD_getElem?, Array.getElem?_setIfInBounds, hki] using hk
          by_cases hji : i = j
          · subst hji
            obtain ⟨_, o2, ho2, hall⟩ := mem_ready.1 hi
            rw [ho2] at hoj; cases hoj
            exact mono _ (hall e he hb)
          · refine mono _ (hc j oj ?_ hoj e he hb)
            simpa [Array.getD_eq_getD_getElem?, Array.getElem?_setIfInBounds, hji] using hj
        · simpa [Array.getD_eq_getD_getElem?, Array.getElem?_setIfInBounds, him] using hm

theorem lastOK_of {l : List Oper} {o : Oper} (hB : lastB (l ++ [o]) = true) (hg : o.guard = none) : LastOK (l ++ [o]).toArray (nopLast (l ++ [o])).toArray l.length o := by
  simp only [lastB, Bool.and_eq_true, List.all_eq_true, List.any_eq_true, List.mem_range, List.length_append, List.length_singleton, Nat.add_sub_cancel] at hB
  obtain ⟨h1, h2⟩ := hB
  have h2' : ∀ k ok, (l ++ [o])[k]? = some ok → (∀ e ∈ ok.after, Region.binds .any e = true → e.on < k) ∧ ∀ g, ok.guard = some g → g.1 < l.length := by
    intro k ok hk
    have hlt := (List.getElem?_eq_some_iff.1 hk).1
    simp only [List.length_append, List.length_singleton] at hlt
    have := h2 k hlt
    rw [hk] at this
    simp only [Option.map_some, Option.getD_some, Bool.and_eq_true, Array.all_eq_true_iff_forall_mem, Bool.or_eq_true, Bool.not_eq_true', decide_eq_true_eq] at this
    refine ⟨fun e he hb => ?_, fun g hgg => ?_⟩
    · rcases this.1 e he with h | h
      · rw [hb] at h; cases h
      · exact h
    · have h3 := this.2
      rw [hgg] at h3
      simp only [decide_eq_true_eq] at h3
      omega
  refine ⟨by simp, by rw [nopLast_append]; simp, by simp, by rw [nopLast_append]; simp, fun i hi => ?_, fun j hj => ?_, fun k ok hk e he hb => ?_, fun k ok g hk hg2 => ?_, hg⟩
  · rw [nopLast_append, List.getElem?_toArray, List.getElem?_toArray]
    rcases Nat.lt_or_ge i l.length with hlt | hge
    · rw [List.getElem?_append_left hlt, List.getElem?_append_left hlt]
    · rw [List.getElem?_eq_none (by simp; omega), List.getElem?_eq_none (by simp; omega)]
  · obtain ⟨k, hk, h3⟩ := h1 j hj
    cases hok : (l ++ [o])[k]? with
    | none => rw [hok] at h3; simp at h3
    | some ok =>
      rw [hok] at h3
      simp only [Option.map_some, Option.getD_some, Bool.and_eq_true, decide_eq_true_eq, Array.any_eq_true, beq_iff_eq] at h3
      obtain ⟨h4, i, hi, h5, h6⟩ := h3
      exact ⟨k, ok, h4, by rw [List.getElem?_toArray]; exact hok, _, Array.getElem_mem hi, h5, h6⟩
  · rw [List.getElem?_toArray] at hk
    exact (h2' k ok hk).1 e he hb
  · rw [List.getElem?_toArray] at hk
    have := (h2' k ok hk).2 g hg2
    omega

/-- A region that draws its order, only reads but for blocks that its callees lay, and ends in one operation that waits for all others: in whatever order. -/
theorem lastOp_any {a : Act} {w : World} {l : List Oper} {o : Oper} (hl : l.getLast? = some o) (hro : F.round = none) (hB : Region.lexB .any (nopLast l).toArray = true) (hL : lastB l = true) (hg : o.guard = none)
    (h : wpQuietIn F n P (nopLast l).toArray (fun w' => ∃ p : Regrown, w' = grow (redrawn w p.d) p.os) (fun a' => ∀ w', Below w.heap.size w w' → wpListIn F n P l.toArray Q [o] a' w') l.dropLast a) : wpAnyIn F n P .any l.toArray Q l.toArray.size (Array.replicate l.toArray.size false) a { w with drawn := w.drawn + 1 } := by
  obtain ⟨l', rfl⟩ : ∃ l', l = l' ++ [o] := by
    obtain ⟨ys, e⟩ := List.getLast?_eq_some_iff.1 hl
    exact ⟨ys, e⟩
  rw [List.dropLast_concat] at h
  have hOK := lastOK_of hL hg
  simp only [Region.lexB, Bool.and_eq_true] at hB
  have hQ : ∀ a', (∀ w', Below w.heap.size w w' → wpListIn F n P (l' ++ [o]).toArray Q [o] a' w') → ∀ w', (∃ p : Regrown, w' = grow (redrawn w p.d) p.os) → o.wpIn F n P a' w' (fun a w => Q .normal a w) Q := by
    rintro a' ha w' ⟨⟨d, os⟩, rfl⟩
    have := ha _ (below_regrown w d os)
    simp only [wpListIn, Region.wanted, hg, if_true] at this
    exact this
  refine hOK.any (C := fun w' => ∃ p : Regrown, w' = grow (redrawn w p.d) p.os) hro _ _ _ _ ⟨⟨w.drawn + 1, #[]⟩, by rw [grow_empty]; rfl⟩ (by simp) (fun j o hj => ?_) (by simp) ?_
  · rw [Array.getD_eq_getD_getElem?, Array.getElem?_replicate] at hj
    split at hj <;> simp at hj
  · have h2 := quiet_snoc (o := o) l' a h
    rw [← nopLast_append] at h2
    have h3 := wpQuietIn_mono hQ _ _ h2
    have := wpAnyQIn_lex (F := F) (n := n) (md := .any) hB.1 (nopLast (l' ++ [o])) 0 (Array.replicate (nopLast (l' ++ [o])).toArray.size false) a (by simp) (by simpa using hB.2) h3
    simpa [nopLast_append] using this

theorem last_in {id : Nat} {a : Act} {w : World} {l : List Oper} {o : Oper} (hl : l.getLast? = some o) (hro : F.round = none) (hm : P.follows .mixedOrders = true) (hB : Region.lexB .any (nopLast l).toArray = true) (hL : lastB l = true) (hg : o.guard = none)
    (h : wpQuietIn F n P (nopLast l).toArray (fun w' => ∃ p : Regrown, w' = grow (redrawn w p.d) p.os) (fun a' => ∀ w', Below w.heap.size w w' → wpListIn F n P l.toArray Q [o] a' w') l.dropLast a) : (Code.region id l.toArray true).wpIn F n P Q a w :=
  wpIn_region_any hm (lastOp_any hl hro hB hL hg h)

/-- The same in a round. -/
theorem last_round {r id : Nat} {a : Act} {w : World} {l : List Oper} {o : Oper} (hl : l.getLast? = some o) (hro : F.round = none) (hnd : noDefer l = true) (hm : P.follows .mixedOrders = true) (hB : Region.lexB .any (nopLast l).toArray = true) (hL : lastB l = true) (hg : o.guard = none)
    (h : wpQuietIn F n P (nopLast l).toArray (fun w' => ∃ p : Regrown, w' = grow (redrawn w p.d) p.os) (fun a' => ∀ w', Below w.heap.size w w' → wpListIn F n P l.toArray Q [o] a' w') l.dropLast a) : (Code.region id l.toArray true).wpIn (F.inRound r) n P Q a w :=
  wpIn_region_any hm (any_round hro (by simpa using hnd) _ _ _ _ (lastOp_any hl hro hB hL hg h))
end
end Go.Proofs.YtafickhhdemjnaaGreatDoor

import Derived.Test.YtjnbnmlggbfodaaSome
namespace Go.Proofs.Ytjnbnmlggbfodaa
open Go.RowKit
set_option linter.unusedVariables false

/-- A list of replicas, each once, may be. -/
theorem plc_all {n : Int} {ids : List Int} (hn : n ≤ 7) (hr : ∀ d ∈ ids, 0 ≤ d ∧ d < n) (hd : ids.Nodup) : ∀ k, k ≤ ids.length → ∃ ps, plc n ids k = some ps
  | 0, _ => ⟨zeroP, rfl⟩
  | k + 1, h => by
    obtain ⟨ps, hp⟩ := plc_all hn hr hd k (by omega)
    obtain ⟨d, hk⟩ : ∃ d, ids[k]? = some d := ⟨_, List.getElem?_eq_getElem (by omega)⟩
    obtain ⟨h0, h1⟩ := hr d (List.mem_of_getElem? hk)
    refine plc_more hn hp hk h0 h1 (fun j hj e => ?_)
    obtain ⟨h2, h3⟩ := List.getElem?_eq_some_iff.1 hk
    obtain ⟨h4, h5⟩ := List.getElem?_eq_some_iff.1 e
    have := (List.getElem_inj hd).1 (h5.trans h3.symm)
    omega
theorem rc_refl (x : Bal) : rcB x x.nm x.op = true := by simp [rcB]
theorem rc_trans {x y : Bal} {n o : Int} (h : rcB x y.nm y.op = true) (k : rcB y n o = true) : rcB x n o = true := by
  simp [rcB] at h k ⊢
  omega
theorem rc_of_ah {x y : Bal} (h : ahB x y = true) : rcB x y.nm y.op = true := by
  simp [rcB, ahB] at h ⊢
  omega
theorem rc_of_not {x y : Bal} (h : ahB x y = false) : rcB y x.nm x.op = true := by
  simp [rcB, ahB] at h ⊢
  omega
/-- The one that is chosen reaches all. -/
theorem fsA_top {l : List Bal} (h0 : 0 < l.length) : ∀ {k : Nat}, k ≤ l.length → ∀ a, l[fsA ahB l k]? = some a → ∀ j y, j < k → l[j]? = some y → rcB a y.nm y.op = true
  | 0, _, a, _, j, y, hj, _ => absurd hj (Nat.not_lt_zero _)
  | k + 1, hk, a, ha, j, y, hj, hy => by
    obtain ⟨x, hx⟩ : ∃ x, l[k]? = some x := ⟨_, List.getElem?_eq_getElem (by omega)⟩
    have hcl : fsA ahB l k < l.length := fsA_lt _ _ h0 (by omega)
    obtain ⟨z, hz⟩ : ∃ z, l[fsA ahB l k]? = some z := ⟨_, List.getElem?_eq_getElem hcl⟩
    rw [fsA_next hx hz] at ha
    cases hb : ahB x z with
    | true =>
      rw [hb, if_pos rfl, hx] at ha
      cases ha
      rcases Nat.lt_or_ge j k with h | h
      · exact rc_trans (rc_of_ah hb) (fsA_top h0 (by omega) z hz j y h hy)
      · obtain rfl : j = k := by omega
        rw [hx] at hy
        cases hy
        exact rc_refl _
    | false =>
      rw [hb, if_neg (by simp), hz] at ha
      cases ha
      rcases Nat.lt_or_ge j k with h | h
      · exact fsA_top h0 (by omega) _ hz j y h hy
      · obtain rfl : j = k := by omega
        rw [hx] at hy
        cases hy
        exact rc_of_not hb
theorem cmA_max {l : List Bal} (h0 : 0 < l.length) : ∀ {k : Nat}, k ≤ l.length → ∀ j y, j < k → l[j]? = some y → y.cm ≤ cmA l k
  | 0, _, j, y, hj, _ => absurd hj (Nat.not_lt_zero _)
  | k + 1, hk, j, y, hj, hy => by
    obtain ⟨x, hx⟩ : ∃ x, l[k]? = some x := ⟨_, List.getElem?_eq_getElem (by omega)⟩
    have hcl : fsA cmB l k < l.length := fsA_lt _ _ h0 (by omega)
    obtain ⟨z, hz⟩ : ∃ z, l[fsA cmB l k]? = some z := ⟨_, List.getElem?_eq_getElem hcl⟩
    have e : cmA l (k + 1) = if z.cm < x.cm then x.cm else z.cm := by
      unfold cmA
      rw [fsA_next hx hz, show cmB x z = decide (z.cm < x.cm) from rfl]
      by_cases h : z.cm < x.cm
      · rw [decide_eq_true h, if_pos rfl, if_pos h, List.getD_eq_getElem?_getD, hx]; rfl
      · rw [decide_eq_false h, if_neg (by simp), if_neg h, List.getD_eq_getElem?_getD, hz]; rfl
    have ez : cmA l k = z.cm := by unfold cmA; rw [List.getD_eq_getElem?_getD, hz]; rfl
    rw [e]
    rcases Nat.lt_or_ge j k with h | h
    · have ih := cmA_max h0 (by omega) j y h hy
      rw [ez] at ih
      split <;> omega
    · obtain rfl : j = k := by omega
      rw [hx] at hy
      cases hy
      split <;> omega

/-- The ballot of a replica. -/
def balI (all : List Bal) (i : Nat) : Bal := match all[i]? with | some b => ⟨(i : Int), b.nm, b.op, b.cm⟩ | none => ⟨(i : Int), 0, 0, 0⟩
theorem balI_who (all : List Bal) (i : Nat) : (balI all i).who = (i : Int) := by unfold balI; split <;> rfl
def bals (all : List Bal) (n : Nat) : List Bal := (List.range n).map (balI all)
theorem bals_len (all : List Bal) (n : Nat) : (bals all n).length = n := by simp [bals]
theorem bals_next (all : List Bal) (n : Nat) : bals all (n + 1) = bals all n ++ [balI all n] := by simp [bals, List.range_succ]
def rcN (all : List Bal) (nm op : Int) (n : Nat) : Nat := (bals all n).countP (fun b => rcB b nm op)
theorem rcN_next (all : List Bal) (nm op : Int) (n : Nat) : rcN all nm op (n + 1) = rcN all nm op n + (if rcB (balI all n) nm op then 1 else 0) := by
  unfold rcN
  rw [bals_next, List.countP_append]
  simp [List.countP_cons]
theorem rcN_le (all : List Bal) (nm op : Int) (n : Nat) : rcN all nm op n ≤ n := by
  unfold rcN
  exact Nat.le_trans List.countP_le_length (by rw [bals_len]; exact Nat.le_refl _)

/-- What is told of n ballots, what Best answers to it. -/
structure Kept (n f : Nat) (nm op : Int) (all : List Bal) (t : List Bal) : Prop where
  len : t.length = f + 1
  best : bsR (n : Int) t = (((fsA ahB t (f + 1) : Nat) : Int), cmA t (f + 1), 0)
  lt : fsA ahB t (f + 1) < f + 1
  cm : ∀ (j : Nat) (y : Bal), t[j]? = some y → y.cm ≤ cmA t (f + 1)
  top : ∀ (a : Bal), t[fsA ahB t (f + 1)]? = some a → (∀ (j : Nat) (y : Bal), t[j]? = some y → rcB a y.nm y.op = true) ∧ (rcN all nm op n < f + 1 ∨ rcB a nm op = true)
theorem kept {n f : Nat} (hnf : n = 2 * f + 1) (hf : 1 ≤ f) (hf3 : f ≤ 3) (nm op : Int) (all : List Bal) (xs : List Int) : Kept n f nm op all (smS (bals all n) xs (f + 1)).2 := by
  have hk : f + 1 ≤ (bals all n).length := by rw [bals_len]; omega
  obtain ⟨hl1, hl2⟩ := smS_len (l := bals all n) (xs := xs) hk
  have hp := smS_perm (l := bals all n) (xs := xs) hk
  rw [bals_len] at hl1
  generalize (smS (bals all n) xs (f + 1)).2 = t at *
  generalize (smS (bals all n) xs (f + 1)).1 = r at *
  have hids : ((t.map Bal.who) ++ (r.map Bal.who)).Perm ((List.range n).map (fun i : Nat => (i : Int))) := by
    have := hp.map Bal.who
    rw [List.map_append] at this
    have e : (bals all n).map Bal.who = (List.range n).map (fun i : Nat => (i : Int)) := by
      unfold bals
      rw [List.map_map]
      exact List.map_congr_left (fun i _ => balI_who all i)
    rwa [e] at this
  have hnd : ((List.range n).map (fun i : Nat => (i : Int))).Nodup := by
    refine List.pairwise_map.2 (List.nodup_range.imp (fun h e => h ?_))
    exact Int.ofNat_inj.1 e
  have hnd2 : (t.map Bal.who).Nodup := (List.nodup_append.1 (hids.nodup_iff.2 hnd)).1
  have hrg : ∀ d ∈ t.map Bal.who, 0 ≤ d ∧ d < (n : Int) := fun d hd => by
    have : d ∈ (List.range n).map (fun i : Nat => (i : Int)) := hids.mem_iff.1 (by simp [hd])
    obtain ⟨i, hi, rfl⟩ := List.mem_map.1 this
    have := List.mem_range.1 hi
    omega
  obtain ⟨ps, hps⟩ := plc_all (n := (n : Int)) (by omega) hrg hnd2 (t.map Bal.who).length (Nat.le_refl _)
  rw [List.length_map] at hps
  have hz : szd (n : Int) t.length = true := by
    have hfl : fl (n : Int) = true := by
      have : n = 3 ∨ n = 5 ∨ n = 7 := by omega
      rcases this with rfl | rfl | rfl <;> rfl
    simp [szd, hfl]
    omega
  have hb := bsR_good hz hps
  have h0 : 0 < t.length := by omega
  rw [hl2] at hb
  refine ⟨hl2, hb, fsA_lt _ _ (by omega) (Nat.le_refl _), fun j y hy => ?_, fun a ha => ?_⟩
  · have hj := (List.getElem?_eq_some_iff.1 hy).1
    exact cmA_max h0 (by omega) j y (by omega) hy
  · have top : ∀ (j : Nat) (y : Bal), t[j]? = some y → rcB a y.nm y.op = true := fun j y hy => by
      have hj := (List.getElem?_eq_some_iff.1 hy).1
      exact fsA_top h0 (by omega) a ha j y (by omega) hy
    refine ⟨top, ?_⟩
    by_cases hc : rcN all nm op n < f + 1
    · exact Or.inl hc
    · right
      have e : rcN all nm op n = t.countP (fun b => rcB b nm op) + r.countP (fun b => rcB b nm op) := by
        unfold rcN
        rw [← hp.countP_eq, List.countP_append]
      have hr : r.countP (fun b => rcB b nm op) ≤ r.length := List.countP_le_length
      have ht : 0 < t.countP (fun b => rcB b nm op) := by omega
      obtain ⟨b, hbm, hbb⟩ := List.countP_pos_iff.1 ht
      obtain ⟨j, hj, rfl⟩ := List.getElem_of_mem hbm
      exact rc_trans (top j _ (List.getElem?_eq_getElem hj)) hbb
end Go.Proofs.Ytjnbnmlggbfodaa

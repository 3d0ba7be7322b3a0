import Derived.Test.YtjnbnmlggbfodaaKeepsP
import Derived.Test.YtjnbnmlggbfodaaBelieves
namespace Go.Proofs.Ytjnbnmlggbfodaa
open Go.RowKit
set_option linter.unusedVariables false

/-- Who stands there is in range, and stands there once. -/
theorem plc_nodup {n : Int} {ids : List Int} (hn : n ≤ 7) : ∀ {k : Nat} {ps : List (Int × Bool)}, plc n ids k = some ps → k ≤ ids.length → (∀ d ∈ ids.take k, 0 ≤ d ∧ d < n) ∧ (ids.take k).Nodup
  | 0, ps, h, _ => by simp
  | k + 1, ps, h, hk => by
    have h' := h
    unfold plc at h
    split at h
    · rename_i qs e e1 e2
      split at h
      · rename_i hc
        obtain ⟨i1, i2⟩ := plc_nodup hn e1 (by omega)
        simp only [isR, Bool.and_eq_true, decide_eq_true_eq, Bool.not_eq_true'] at hc
        obtain ⟨⟨hc1, hc2⟩, hc3⟩ := hc
        have et : ids.take (k + 1) = ids.take k ++ [e] := by rw [List.take_add_one, e2]; rfl
        rw [et]
        refine ⟨fun d hd => ?_, ?_⟩
        · rcases List.mem_append.1 hd with h | h
          · exact i1 d h
          · simp at h; subst h; exact ⟨hc1, hc2⟩
        · rw [List.nodup_append]
          refine ⟨i2, by simp, fun a ha b hb => ?_⟩
          simp at hb
          subst hb
          intro e3
          subst e3
          obtain ⟨j, hj, e4⟩ := List.getElem_of_mem ha
          have hj' : j < k := by rw [List.length_take] at hj; omega
          have e5 : ids[j]? = some a := by
            have := List.getElem?_eq_getElem hj
            rw [e4, List.getElem?_take, if_pos hj'] at this
            exact this
          have := (plc_mem hn e1 a.toNat (by omega)).2 ⟨j, hj', by rw [e5, Int.toNat_of_nonneg hc1]⟩
          rw [hc3] at this
          cases this
      · cases h
    · cases h
def okI (n : Int) (ids : List Int) : Prop := (∀ d ∈ ids, 0 ≤ d ∧ d < n) ∧ ids.Nodup
theorem okI_perm {n : Int} {a b : List Int} (h : a.Perm b) (k : okI n a) : okI n b := ⟨fun d hd => k.1 d (h.mem_iff.2 hd), h.nodup_iff.1 k.2⟩
theorem plc_iff {n : Int} {ids : List Int} (hn : n ≤ 7) : (∃ ps, plc n ids ids.length = some ps) ↔ okI n ids := by
  constructor
  · rintro ⟨ps, h⟩
    have := plc_nodup hn h (Nat.le_refl _)
    rwa [List.take_length] at this
  · rintro ⟨h1, h2⟩
    exact plc_all hn h1 h2 _ (Nat.le_refl _)
theorem plc_not {n : Int} {ids : List Int} (hn : n ≤ 7) (h : ¬ okI n ids) : plc n ids ids.length = none := by
  cases hp : plc n ids ids.length with
  | none => rfl
  | some ps => exact absurd ((plc_iff hn).1 ⟨ps, hp⟩) h
theorem szd7 {n : Int} {m : Nat} (h : szd n m = true) : n ≤ 7 ∧ 3 ≤ n := by
  obtain ⟨_, _, _, hf⟩ := szd_few h
  rcases fl_cases hf with rfl | rfl | rfl <;> decide
theorem rc_anti {x y : Bal} (h : rcB x y.nm y.op = true) (k : rcB y x.nm x.op = true) : x.nm = y.nm ∧ x.op = y.op := by
  simp [rcB] at h k
  omega
theorem cmA_mem {l : List Bal} (h0 : 0 < l.length) : ∃ y ∈ l, y.cm = cmA l l.length := by
  have hcl : fsA cmB l l.length < l.length := fsA_lt _ _ h0 (Nat.le_refl _)
  refine ⟨_, List.getElem_mem hcl, ?_⟩
  unfold cmA
  rw [List.getD_eq_getElem?_getD, List.getElem?_eq_getElem hcl]
  rfl
theorem cmA_perm {l t : List Bal} (h : t.Perm l) (h0 : 0 < l.length) : cmA t t.length = cmA l l.length := by
  have hl := h.length_eq
  obtain ⟨y, hy, ey⟩ := cmA_mem h0
  obtain ⟨z, hz, ez⟩ := cmA_mem (l := t) (by omega)
  obtain ⟨i, hi, e1⟩ := List.getElem_of_mem (h.mem_iff.2 hy)
  obtain ⟨j, hj, e2⟩ := List.getElem_of_mem (h.mem_iff.1 hz)
  have h1 := cmA_max (l := t) (by omega) (Nat.le_refl _) i y hi (by rw [List.getElem?_eq_getElem hi, e1])
  have h2 := cmA_max (l := l) h0 (Nat.le_refl _) j z hj (by rw [List.getElem?_eq_getElem hj, e2])
  omega
/-- Best, of ballots in another order. -/
structure Trn (n : Int) (l t : List Bal) : Prop where
  e : (bsR n t).2.2 = (bsR n l).2.2
  c : (bsR n t).2.1 = (bsR n l).2.1
  ok : (bsR n l).2.2 = 0 → ∃ (a b : Nat) (x y : Bal), (bsR n l).1 = (a : Int) ∧ (bsR n t).1 = (b : Int) ∧ l[a]? = some x ∧ t[b]? = some y ∧ x.nm = y.nm ∧ x.op = y.op
theorem turned_best {n : Int} {l t : List Bal} (h : t.Perm l) : Trn n l t := by
  have hl := h.length_eq
  cases hz : szd n l.length with
  | false =>
    have e1 := bsR_size hz
    have e2 := bsR_size (n := n) (l := t) (by rw [hl]; exact hz)
    rw [← e2] at e1
    exact ⟨by rw [e1], by rw [e1], fun k => by rw [e1, e2] at k; cases k⟩
  | true =>
    obtain ⟨h7, h3⟩ := szd7 hz
    obtain ⟨h0, _, _, _⟩ := szd_few hz
    have hz2 : szd n t.length = true := by rw [hl]; exact hz
    by_cases ho : okI n (l.map Bal.who)
    · have ho2 := okI_perm (h.map Bal.who).symm ho
      obtain ⟨ps, hp⟩ := (plc_iff h7).2 ho
      obtain ⟨qs, hq⟩ := (plc_iff h7).2 ho2
      rw [List.length_map] at hp hq
      have e1 := bsR_good hz hp
      have e2 := bsR_good hz2 hq
      refine ⟨by rw [e1, e2], by rw [e1, e2]; exact cmA_perm h h0, fun _ => ?_⟩
      have ha : fsA ahB l l.length < l.length := fsA_lt _ _ h0 (Nat.le_refl _)
      have hb : fsA ahB t t.length < t.length := fsA_lt _ _ (by omega) (Nat.le_refl _)
      obtain ⟨x, hx⟩ : ∃ x, l[fsA ahB l l.length]? = some x := ⟨_, List.getElem?_eq_getElem ha⟩
      obtain ⟨y, hy⟩ : ∃ y, t[fsA ahB t t.length]? = some y := ⟨_, List.getElem?_eq_getElem hb⟩
      obtain ⟨i, hi, ei⟩ := List.getElem_of_mem (h.mem_iff.1 (List.mem_of_getElem? hy))
      obtain ⟨j, hj, ej⟩ := List.getElem_of_mem (h.mem_iff.2 (List.mem_of_getElem? hx))
      have r1 := fsA_top h0 (Nat.le_refl _) x hx i y hi (by rw [List.getElem?_eq_getElem hi, ei])
      have r2 := fsA_top (l := t) (by omega) (Nat.le_refl _) y hy j x hj (by rw [List.getElem?_eq_getElem hj, ej])
      obtain ⟨r3, r4⟩ := rc_anti r1 r2
      exact ⟨_, _, x, y, by rw [e1], by rw [e2], hx, hy, r3, r4⟩
    · have ho2 : ¬ okI n (t.map Bal.who) := fun k => ho (okI_perm (h.map Bal.who) k)
      have p1 := plc_not h7 ho
      have p2 := plc_not h7 ho2
      rw [List.length_map] at p1 p2
      have e1 := bsR_bad hz p1
      have e2 := bsR_bad hz2 p2
      rw [← e2] at e1
      exact ⟨by rw [e1], by rw [e1], fun k => by rw [e1, e2] at k; cases k⟩
theorem vwA_mem {l : List Wit} (h0 : 0 < l.length) : ∃ y ∈ l, y.vw = vwA l l.length := by
  have hcl : fsA vwW l l.length < l.length := fsA_lt _ _ h0 (Nat.le_refl _)
  refine ⟨_, List.getElem_mem hcl, ?_⟩
  unfold vwA
  rw [List.getD_eq_getElem?_getD, List.getElem?_eq_getElem hcl]
  rfl
theorem vwA_perm {l t : List Wit} (h : t.Perm l) (h0 : 0 < l.length) : vwA t t.length = vwA l l.length := by
  have hl := h.length_eq
  obtain ⟨y, hy, ey⟩ := vwA_mem h0
  obtain ⟨z, hz, ez⟩ := vwA_mem (l := t) (by omega)
  obtain ⟨i, hi, e1⟩ := List.getElem_of_mem (h.mem_iff.2 hy)
  obtain ⟨j, hj, e2⟩ := List.getElem_of_mem (h.mem_iff.1 hz)
  have h1 := vwA_max (l := t) (by omega) (Nat.le_refl _) i y hi (by rw [List.getElem?_eq_getElem hi, e1])
  have h2 := vwA_max (l := l) h0 (Nat.le_refl _) j z hj (by rw [List.getElem?_eq_getElem hj, e2])
  omega
/-- Ready, of witnesses in another order. -/
structure TrW (n me fo : Int) (l t : List Wit) : Prop where
  e : (rdR n me fo t).2.2 = (rdR n me fo l).2.2
  o : (rdR n me fo t).2.1 = (rdR n me fo l).2.1
  ok : (rdR n me fo l).2.1 = true → ∃ (a b : Nat) (x : Wit), (rdR n me fo l).1 = (a : Int) ∧ (rdR n me fo t).1 = (b : Int) ∧ l[a]? = some x ∧ t[b]? = some x
theorem turned_ready {n me fo : Int} {l t : List Wit} (h : t.Perm l) : TrW n me fo l t := by
  have hl := h.length_eq
  have same : ∀ r : Int × Bool × Int, r.2.1 = false → rdR n me fo l = r → rdR n me fo t = r → TrW n me fo l t := fun r hr e1 e2 => ⟨by rw [e1, e2], by rw [e1, e2], fun k => by rw [e1, hr] at k; cases k⟩
  cases hz : szd n l.length with
  | false => exact same _ rfl (rdR_size hz) (rdR_size (by rw [hl]; exact hz))
  | true =>
    obtain ⟨h7, h3⟩ := szd7 hz
    obtain ⟨h0, _, _, _⟩ := szd_few hz
    have hz2 : szd n t.length = true := by rw [hl]; exact hz
    have hm := h.map Wit.who
    by_cases ho : okI n (l.map Wit.who)
    case neg =>
      have ho2 : ¬ okI n (t.map Wit.who) := fun k => ho (okI_perm hm k)
      have p1 := plc_not h7 ho
      have p2 := plc_not h7 ho2
      rw [List.length_map] at p1 p2
      exact same _ rfl (rdR_bad hz p1) (rdR_bad hz2 p2)
    have ho2 := okI_perm hm.symm ho
    obtain ⟨ps, hp⟩ := (plc_iff h7).2 ho
    obtain ⟨qs, hq⟩ := (plc_iff h7).2 ho2
    rw [List.length_map] at hp hq
    cases hr : isR n me with
    | false => exact same _ rfl (rdR_out hz hr) (rdR_out hz2 hr)
    | true =>
      by_cases hme : me ∈ l.map Wit.who
      · obtain ⟨i, hi, ei⟩ := List.getElem_of_mem hme
        obtain ⟨j, hj, ej⟩ := List.getElem_of_mem (hm.mem_iff.2 hme)
        exact same _ rfl (rdR_me h7 hz hr (i := i) (by simpa using hi) (by rw [List.getElem?_eq_getElem hi, ei])) (rdR_me h7 hz2 hr (i := j) (by simpa using hj) (by rw [List.getElem?_eq_getElem hj, ej]))
      · have e1 := rdR_good (fo := fo) h7 hz hr hp (fun i _ e => hme (List.mem_of_getElem? e))
        have e2 := rdR_good (fo := fo) h7 hz2 hr hq (fun i _ e => hme (hm.mem_iff.1 (List.mem_of_getElem? e)))
        have ev := vwA_perm h h0
        by_cases hlow : (l.length : Int) < maj n ∨ vwA l l.length < 0 ∨ vwA l l.length < fo
        · exact same _ rfl (by rw [e1, rdV_low hlow]) (by rw [e2, rdV_low (by rw [ev, hl]; exact hlow)])
        · by_cases hx : ∃ x ∈ l, x.who = vwA l l.length % n ∧ x.vw = vwA l l.length ∧ x.has = true
          · obtain ⟨x, hxm, h1, h2, h3'⟩ := hx
            obtain ⟨i, hi, ei⟩ := List.getElem_of_mem hxm
            obtain ⟨j, hj, ej⟩ := List.getElem_of_mem (h.mem_iff.2 hxm)
            have ei' : l[i]? = some x := by rw [List.getElem?_eq_getElem hi, ei]
            have ej' : t[j]? = some x := by rw [List.getElem?_eq_getElem hj, ej]
            have r1 := rdV_yes h7 h3 hp hlow ei' h1 h2 h3'
            have r2 := rdV_yes (fo := fo) h7 h3 hq (by rw [ev, hl]; exact hlow) ej' (by rw [ev]; exact h1) (by rw [ev]; exact h2) h3'
            exact ⟨by rw [e1, e2, r1, r2], by rw [e1, e2, r1, r2], fun _ => ⟨i, j, x, by rw [e1, r1], by rw [e2, r2], ei', ej'⟩⟩
          · have r1 := rdV_no (fo := fo) h7 h3 hp (fun i x _ hi k => hx ⟨x, List.mem_of_getElem? hi, k⟩)
            have r2 := rdV_no (fo := fo) h7 h3 hq (fun i x _ hi k => hx ⟨x, h.mem_iff.1 (List.mem_of_getElem? hi), by rw [← ev]; exact k⟩)
            exact same _ rfl (by rw [e1, r1]) (by rw [e2, r2])
theorem rot_perm {α : Type} (l : List α) (k : Nat) : (l.drop k ++ l.take k).Perm l := by
  have := (List.perm_append_comm (l₁ := l.drop k) (l₂ := l.take k))
  rwa [List.take_append_drop] at this
end Go.Proofs.Ytjnbnmlggbfodaa

import Derived.Test.YtkaigmoeagjjgaaFls
namespace Go.Proofs.Ytkaigmoeagjjgaa
open Go.RowKit
attribute [local go_sem] run_store_float
set_option linter.unusedVariables false

def smE (l : List Int) (w : Nat) : Int := if 4096 < l.length then 220 else if isP w then 0 else 221
def smO (l : List Int) (w : Nat) : List Nat := if smE l w = 0 then smL w l else []
theorem smO_len (l : List Int) (w : Nat) : (smO l w).length ≤ 4096 := by
  unfold smO
  split
  · rename_i h
    rw [smL_len]
    unfold smE at h
    by_cases c : 4096 < l.length
    · rw [if_pos c] at h; exact absurd h (by decide)
    · omega
  · simp
theorem smE_ok {l : List Int} {w : Nat} (h1 : l.length ≤ 4096) (h2 : isP w = true) : smE l w = 0 := by unfold smE; rw [if_neg (by omega), h2]; rfl
theorem smO_nn {l : List Int} {w : Nat} (hs : Sm l) (hw : w < 18446744073709551616) : ∀ x ∈ smO l w, Flt.NN x := by
  unfold smO
  split
  · rename_i h
    have hq : isP w = true := by
      unfold smE at h
      by_cases c : 4096 < l.length
      · rw [if_pos c] at h; exact absurd h (by decide)
      · rw [if_neg c] at h
        cases hq : isP w
        · rw [hq] at h; exact absurd h (by decide)
        · rfl
    obtain ⟨a, ha, ha0, ha1⟩ := isP_is hw hq
    intro x hx
    unfold smL at hx
    obtain ⟨k, hk, rfl⟩ := List.mem_map.1 hx
    obtain ⟨c, hc, _⟩ := sm_is hs ha ha0 ha1 k (List.mem_range.1 hk)
    exact Flt.Fn.nn ⟨c, hc⟩
  · intro x hx; simp at hx

/-- every answer of the program -/
theorem Smooth_tot {w : World} {v : Value} {l : List Int} {x : Nat} (h : IntsAt w v l) (hs : Sm l) (hx : x < 18446744073709551616) : Calls Try.prog 21 #[v, .float .f64 x] w fun e w' => ∃ u, e = .returned (.tuple #[u, .int .i64 (smE l x)]) ∧ All [ownC 25 u (flts (smO l x)), inC w] w' := by
  by_cases h1 : 4096 < l.length
  · obtain ⟨ao, c, rfl⟩ := h.form
    refine (Smooth_many h1).mono ?_
    rintro e w' ⟨rfl, rfl⟩
    have hE : smE l x = 220 := by unfold smE; rw [if_pos h1]
    refine ⟨_, by rw [hE], ?_⟩
    unfold smO; rw [hE, if_neg (by decide)]
    exact (All.came _).addNil
  · cases hq : isP x with
    | false =>
      obtain ⟨ao, c, rfl⟩ := h.form
      refine (Smooth_part (by omega) hq).mono ?_
      rintro e w' ⟨rfl, rfl⟩
      have hE : smE l x = 221 := by unfold smE; rw [if_neg h1, hq]; rfl
      refine ⟨_, by rw [hE], ?_⟩
      unfold smO; rw [hE, if_neg (by decide)]
      exact (All.came _).addNil
    | true =>
      refine (Smooth_ok h hs (by omega) hx hq).mono ?_
      rintro e w' ⟨u, rfl, hA⟩
      have hE := smE_ok (l := l) (w := x) (by omega) hq
      refine ⟨u, by rw [hE], ?_⟩
      unfold smO; rw [hE, if_pos rfl]
      exact hA

theorem sm_take (w : Nat) (l : List Int) {k : Nat} (h : k < l.length) : (smL w l).take (k + 1) = (smL w l).take k ++ [smN w l k] := by
  rw [List.take_add_one, smL_at w l h]; rfl

set_option maxHeartbeats 4000000 in
theorem rSmooth_ok {w : World} {v : Value} {l : List Int} {x : Nat} (h : IntsAt w v l) (hs : Sm l) (hn : l.length ≤ 4096) (hx : x < 18446744073709551616) (hp : isP x = true) : Calls Try.prog 22 #[v, .float .f64 x] w fun e w' => ∃ u, e = .returned (.tuple #[u, .int .i64 0]) ∧ All [ownC 25 u (flts (smL x l)), inC w] w' := by
  obtain ⟨ao, c, rfl⟩ := h.form
  obtain ⟨hc, _⟩ := h.cap
  have cp := rShare_part (w := w) (x := x)
  rw [hp] at cp
  obtain ⟨p, ha, ha0, ha1⟩ := isP_is hx hp
  have HS := hid (fun (k : Nat) (y : Int) (hy : l[k + 1]? = some y) => sm_some hs ha ha0 ha1 hy)
  have H1 := hid h
  have A0 := hid (own_nilF (All.came w))
  clear h hp ha ha0 ha1 hx hs
  go_enter Try.func22, Try.ntmps22
  go_wp2_with fail
  refine cp.mono ?_
  rintro e w1 ⟨rfl, rfl⟩
  go_wp2
  generalize w1.alloc (.cells #[] 25) = wa at A0 ⊢
  go_loopw [6, 7, 8] (fun u m s wr => ∃ (k oc : Nat) (oo : Option Addr) (mm : Nat), k ≤ l.length ∧ (∀ j, k = j + 1 → mm = smN x l j) ∧ u = .slice oo k oc ∧ m = .float .f64 mm ∧ s = .int .i64 (k : Int) ∧ All [ownC 25 u (flts ((smL x l).take k)), inC w1] wr) (fun _ _ s _ => l.length - (intOf s).toNat)
  case atStart => exact ⟨0, 0, _, 0, Nat.zero_le _, fun j e => by omega, rfl, rfl, rfl, A0.out⟩
  case round =>
    obtain ⟨k, oc, oo, mm, hk, hmm, rfl, rfl, rfl, hA⟩ := hrel
    have HA := hid hA
    clear hA A0
    have hbw := inC_of (w := w1) HA.out (by simp)
    by_cases hlt : k < l.length
    · obtain ⟨y, hy⟩ : ∃ y, l[k]? = some y := ⟨_, List.getElem?_eq_getElem hlt⟩
      obtain ⟨g, off, rfl, hg, cx⟩ := H1.out.at hy
      have cx2 : wr.cell? ⟨g, off + k, none⟩ = some (.int .i64 y) := (hbw.cell (p := ⟨g, off + k, none⟩) hg).trans cx
      have ht := hid (sm_take x l hlt)
      have hkl : ((smL x l).take k).length = k := by rw [List.length_take, smL_len]; omega
      have HKL := hid hkl
      have hb8 : ∀ z : Nat, (((smL x l).take k).length + [z].length) * 8 ≤ 140737488355328 := fun z => by rw [hkl, List.length_singleton]; omega
      have HB8 := hid hb8
      rcases Nat.eq_zero_or_pos k with hk0 | hk0
      · have hz : smN x l k = floatOfInt .f64 y := by subst hk0; show Flt.fx (l.getD 0 0) = _; simp [List.getD, hy]; rfl
        have hk1 : ((k : Int) == 0) = true := by simp [hk0]
        have A1 := hid (HA.out.alloc (.cells #[.float .f64 (floatOfInt .f64 y)] 25))
        have hz2 := hid hz.symm
        clear cx hy hk0 hmm hkl hb8 hbw hz
        go_wp2_with (at_builtin; refine wpList_appF rfl rfl A1.out rfl rfl (flts_new _ _) (HB8.out _) ?_; intro v' w' hA2 hf hsz; obtain ⟨oo2, oc2, rfl⟩ := hf; have HA2 := hid hA2; clear hA2 hsz)
        have hfin := hid (show All [ownC 25 (.slice oo2 (k + 1) oc2) (flts ((smL x l).take (k + 1))), inC w1] w' by
          have h := HA2.out
          rw [hz2.out, ← ht.out] at h
          simpa only [HKL.out, List.length_singleton] using h)
        clear HA2 A1 HA
        go_wp2
        rw [show min k (smL x l).length = k by rw [smL_len]; omega]
        exact ⟨⟨k + 1, oc2, oo2, _, by omega, fun j e => by
          have e2 : j = k := by omega
          rw [e2]; exact hz2.out, rfl, rfl, rfl, hfin.out⟩, by simp [intOf]; omega⟩
      · obtain ⟨j, hj⟩ : ∃ j, k = j + 1 := ⟨k - 1, by omega⟩
        have hM := hmm j hj
        have hs := HS.out j y (by rw [← hj]; exact hy)
        rw [← hj, ← hM] at hs
        have hk1 : ((k : Int) == 0) = false := by
          rw [beq_eq_false_iff_ne]; omega
        have r0 : ∀ W, (binOp .sub 25 (.float .f64 (floatOfInt .f64 y)) (.float .f64 mm)).run Try.prog W = .ok (.float .f64 (fsub (Flt.fx y) mm)) W := fun W => run_fsub W 25 hs.1
        generalize fsub (Flt.fx y) mm = D at hs r0
        have r1 : ∀ W, (binOp .mul 25 (.float .f64 x) (.float .f64 D)).run Try.prog W = .ok (.float .f64 (fmul x D)) W := fun W => run_fmul W 25 hs.2.1
        obtain ⟨N, hN⟩ : ∃ N, Hid (N = smN x l k) := ⟨_, rfl⟩
        rw [← hN.out] at hs
        have r2 : ∀ W, (binOp .add 25 (.float .f64 mm) (.float .f64 (fmul x D))).run Try.prog W = .ok (.float .f64 N) W := fun W => run_fadd W 25 hs.2.2
        have A1 := hid (HA.out.alloc (.cells #[.float .f64 N] 25))
        clear cx hy hk0 hmm hkl hb8 hbw hs hM hj
        go_wp2_with (at_builtin; refine wpList_appF rfl rfl A1.out rfl rfl (flts_new _ _) (HB8.out _) ?_; intro v' w' hA2 hf hsz; obtain ⟨oo2, oc2, rfl⟩ := hf; have HA2 := hid hA2; clear hA2 hsz)
        have hfin := hid (show All [ownC 25 (.slice oo2 (k + 1) oc2) (flts ((smL x l).take (k + 1))), inC w1] w' by
          have h := HA2.out
          rw [hN.out, ← ht.out] at h
          simpa only [HKL.out, List.length_singleton] using h)
        clear HA2 A1 HA
        go_wp2
        rw [show min k (smL x l).length = k by rw [smL_len]; omega]
        exact ⟨⟨k + 1, oc2, oo2, _, by omega, fun j e => by
          have e2 : j = k := by omega
          rw [e2]; exact hN.out, rfl, rfl, rfl, hfin.out⟩, by simp [intOf]; omega⟩
    · obtain rfl : k = l.length := by omega
      have hA3 := HA.out
      rw [List.take_of_length_le (by rw [smL_len]; omega)] at hA3
      have HA3 := hid hA3
      clear hA3 HA hmm hbw hlt hk
      go_wp2
      go_ret2
      exact ⟨_, rfl, HA3.out⟩

theorem rSmooth_tot {w : World} {v : Value} {l : List Int} {x : Nat} (h : IntsAt w v l) (hs : Sm l) (hx : x < 18446744073709551616) : Calls Try.prog 22 #[v, .float .f64 x] w fun e w' => ∃ u, e = .returned (.tuple #[u, .int .i64 (smE l x)]) ∧ All [ownC 25 u (flts (smO l x)), inC w] w' := by
  by_cases h1 : 4096 < l.length
  · obtain ⟨ao, c, rfl⟩ := h.form
    have hE : smE l x = 220 := by unfold smE; rw [if_pos h1]
    have hO : smO l x = [] := by unfold smO; rw [hE, if_neg (by decide)]
    rw [hE, hO]
    clear h hE hO hs
    go_enter Try.func22, Try.ntmps22
    go_wp2
    go_ret2
    exact ⟨_, rfl, (All.came _).addNil⟩
  · cases hq : isP x with
    | false =>
      obtain ⟨ao, c, rfl⟩ := h.form
      have hE : smE l x = 221 := by unfold smE; rw [if_neg h1, hq]; rfl
      have hO : smO l x = [] := by unfold smO; rw [hE, if_neg (by decide)]
      rw [hE, hO]
      have cp := rShare_part (w := w) (x := x)
      rw [hq] at cp
      clear h hE hO hs hq
      go_enter Try.func22, Try.ntmps22
      go_wp2_with fail
      refine cp.mono ?_
      rintro e w1 ⟨rfl, rfl⟩
      go_wp2
      go_ret2
      exact ⟨_, rfl, (All.came _).addNil⟩
    | true =>
      refine (rSmooth_ok h hs (by omega) hx hq).mono ?_
      rintro e w' ⟨u, rfl, hA⟩
      have hE := smE_ok (l := l) (w := x) (by omega) hq
      refine ⟨u, by rw [hE], ?_⟩
      unfold smO; rw [hE, if_pos rfl]
      exact hA
end Go.Proofs.Ytkaigmoeagjjgaa

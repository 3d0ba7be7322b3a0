import Derived.Test.YtkaigmoeagjjgabFla
namespace Go.Proofs.Ytkaigmoeagjjgab
open Go.RowKit
attribute [local go_sem] run_store_float
set_option linter.unusedVariables false

theorem flat_in {x : Int} (h1 : ¬ x < -1099511627776) (h2 : ¬ 1099511627776 < x) : x.natAbs ≤ 1099511627776 := by omega
set_option maxHeartbeats 4000000 in
theorem flat_law {w : World} {x cnt : Int} {wt : Nat} (hwt : wt < 18446744073709551616) : Calls Try.prog 5 #[.int .i64 x, .int .i64 cnt, .float .f64 wt] w fun e w' => e = .returned (.bool true) ∧ Below w.heap.size w w' := by
  by_cases d1 : x < -1099511627776
  · go_enter Try.func5, Try.ntmps5
    go_wp2_with fail
    refine shown_any.mono ?_
    rintro e w1 ⟨rfl, hb1⟩
    go_wp2
    go_ret
    exact ⟨rfl, hb1⟩
  by_cases d2 : 1099511627776 < x
  · go_enter Try.func5, Try.ntmps5
    go_wp2_with fail
    refine shown_any.mono ?_
    rintro e w1 ⟨rfl, hb1⟩
    go_wp2
    go_ret
    exact ⟨rfl, hb1⟩
  by_cases d3 : cnt < 1
  · go_enter Try.func5, Try.ntmps5
    go_wp2_with fail
    refine shown_any.mono ?_
    rintro e w1 ⟨rfl, hb1⟩
    go_wp2
    go_ret
    exact ⟨rfl, hb1⟩
  by_cases d4 : 4096 < cnt
  · go_enter Try.func5, Try.ntmps5
    go_wp2_with fail
    refine shown_any.mono ?_
    rintro e w1 ⟨rfl, hb1⟩
    go_wp2
    go_ret
    exact ⟨rfl, hb1⟩
  have HX := hid (flat_in d1 d2)
  have e1 : decide (x < -1099511627776) = false := decide_eq_false d1
  have e2 : decide (1099511627776 < x) = false := decide_eq_false d2
  obtain ⟨n, rfl⟩ : ∃ n : Nat, cnt = n := ⟨cnt.toNat, by omega⟩
  have hn0 : 0 < n := by omega
  have hn : n ≤ 4096 := by omega
  clear d1 d2 d3 d4
  go_enter Try.func5, Try.ntmps5
  go_wp2_with fail
  refine shown_any.mono ?_
  rintro e w1 ⟨rfl, hb1⟩
  have HB1 := hid hb1
  clear hb1
  have A0 := hid (own_nil (All.came w1))
  go_wp2
  generalize w1.alloc (.cells #[] 3) = wa at A0 ⊢
  go_loopw [7, 8] (fun u s wr => ∃ (k oc : Nat) (oo : Option Addr), k ≤ n ∧ u = .slice oo k oc ∧ s = .int .i64 (k : Int) ∧ All [ownC 3 u (ints (List.replicate k x)), inC w1] wr) (fun _ s _ => n - (intOf s).toNat)
  case atStart => exact ⟨0, 0, _, Nat.zero_le _, rfl, rfl, A0.out⟩
  case round =>
    obtain ⟨k, oc, oo, hk, rfl, rfl, hA⟩ := hrel
    have HA := hid hA
    clear hA A0
    by_cases hlt : k < n
    · have A1 := hid (HA.out.alloc (.cells #[.int .i64 x] 3))
      have hlen : (List.replicate k x).length + [x].length = k + 1 := by simp
      go_wp2_with (at_builtin; refine wpList_app rfl rfl A1.out rfl rfl (ints_new _ _) (by simp; omega) ?_; intro v' w' hA2 hf hsz; obtain ⟨oo2, oc2, rfl⟩ := hf; have HA2 := hid hA2; clear hA2 hsz)
      have hfin := hid (show All [ownC 3 (.slice oo2 (k + 1) oc2) (ints (List.replicate (k + 1) x)), inC w1] w' by
        have h := HA2.out
        rw [← rep_snoc] at h
        simpa only [List.length_replicate, List.length_singleton] using h)
      clear HA2 A1 HA
      go_wp2
      exact ⟨⟨k + 1, oc2, oo2, by omega, rfl, rfl, hfin.out⟩, by simp [intOf]; omega⟩
    · obtain rfl : k = n := by omega
      clear hlt
      have hi := ints_of_all HA.out
      have hbw := inC_of (w := w1) HA.out (by simp)
      have HB2 := hid (HB1.out.trans (hbw.mono HB1.out.size))
      have hl2 : (List.replicate k x).length = k := by simp
      have cO := Of_ok hi (flat_Sm HX.out k) (by omega) (by omega)
      rw [flat_min x k hn0, flat_max x k hn0, hl2] at cO
      have hM := flat_mean HX.out hn0 hn
      generalize meanF (List.replicate k x) = M at cO hM
      have hD := flat_dev HX.out hn0 hn hM
      generalize devF (List.replicate k x) M = D at cO hD
      have oM : (FloatKind.f64.format.order M (floatOfInt .f64 x) != some .eq) = false := by
        rw [show FloatKind.f64.format.order M (floatOfInt .f64 x) = some .eq from Flt.order_int hM (Flt.fx_Is' (x := x) (by have := HX.out; rw [B_val]; omega))]; rfl
      have oD : (FloatKind.f64.format.order D 0 != some .eq) = false := by
        rw [show FloatKind.f64.format.order D 0 = some .eq from Flt.order_int hD is_zero]; rfl
      have HI := hid hi
      clear hi hM hD HA hbw
      go_wp2_with fail
      refine cO.mono ?_
      rintro e w2 ⟨rfl, hb2⟩
      have HI2 := hid ((HI.out.later hb2).later (ba w2 (.cells #[.int .i64 k, .int .i64 x, .int .i64 x, .float .f64 M, .float .f64 D] 26)))
      have HB3 := hid ((HB2.out.trans (hb2.mono HB2.out.size)).trans ((ba w2 (.cells #[.int .i64 k, .int .i64 x, .int .i64 x, .float .f64 M, .float .f64 D] 26)).mono (Nat.le_trans HB2.out.size hb2.size)))
      clear hb2 HI HB2 cO
      cases hp : isP wt with
      | false =>
        have hpp : (FloatKind.f64.format.order wt 0 == some .gt && (FloatKind.f64.format.order wt 4607182418800017408 == some .lt || FloatKind.f64.format.order wt 4607182418800017408 == some .eq)) = false := hp
        by_cases g1 : FloatKind.f64.format.order wt 0 = some .gt
        · have q1 : (FloatKind.f64.format.order wt 0 == some .gt) = true := by rw [g1]; rfl
          have q2 : (FloatKind.f64.format.order wt 4607182418800017408 == some .lt || FloatKind.f64.format.order wt 4607182418800017408 == some .eq) = false := by
            rw [q1, Bool.true_and] at hpp; exact hpp
          clear hpp g1
          go_wp2_with fail
          refine (Smooth_part hn hp).mono ?_
          rintro e w3 ⟨rfl, rfl⟩
          go_wp2
          go_ret
          exact ⟨rfl, HB3.out⟩
        · have q1 : (FloatKind.f64.format.order wt 0 == some .gt) = false := by simpa using g1
          clear hpp g1
          go_wp2_with fail
          refine (Smooth_part hn hp).mono ?_
          rintro e w3 ⟨rfl, rfl⟩
          go_wp2
          go_ret
          exact ⟨rfl, HB3.out⟩
      | true =>
        have hpp : (FloatKind.f64.format.order wt 0 == some .gt && (FloatKind.f64.format.order wt 4607182418800017408 == some .lt || FloatKind.f64.format.order wt 4607182418800017408 == some .eq)) = true := hp
        obtain ⟨p, hp1, hp2, hp3⟩ := isP_is hwt hp
        have hSM := hid (fun (j : Nat) (hj : j < k) => flat_sm (n := k) HX.out hp1 hp2 hp3 j hj)
        have cS := hid (Smooth_ok HI2.out (flat_Sm HX.out k) (by rw [hl2]; exact hn) hwt hp)
        have q1 : (FloatKind.f64.format.order wt 0 == some .gt) = true := by
          have := hpp; rw [Bool.and_eq_true] at this; exact this.1
        have q2 : (FloatKind.f64.format.order wt 4607182418800017408 == some .lt || FloatKind.f64.format.order wt 4607182418800017408 == some .eq) = true := by
          have := hpp; rw [Bool.and_eq_true] at this; exact this.2
        clear hp1 hp2 hp3 hpp hp
        go_wp2_with fail
        refine cS.out.mono ?_
        rintro e w3 ⟨u, rfl, hA3⟩
        obtain ⟨o3, c3, rfl⟩ := owns_form (show w3.ownsRow 0 23 1 u _ _ from hA3.1.2.1)
        have HA3 := hid hA3
        have hoc := (own_cap hA3).1
        have HB4 := hid (HB3.out.trans ((inC_of (w := w2.alloc (.cells #[.int .i64 k, .int .i64 x, .int .i64 x, .float .f64 M, .float .f64 D] 26)) hA3 (by simp)).mono HB3.out.size))
        have hl3 : (flts (smL wt (List.replicate k x))).length = k := by rw [List.length_map, smL_len, hl2]
        rw [hl3] at hoc ⊢
        clear hA3 cS HB3
        go_wp2
        go_loopw [12] (fun s wx => ∃ j : Nat, j ≤ k ∧ s = .int .i64 (j : Int) ∧ wx = w3) (fun s _ => k - (intOf s).toNat)
        case atStart => exact ⟨0, Nat.zero_le _, rfl, rfl⟩
        case round =>
          obtain ⟨j, hj, rfl, rfl⟩ := hrel
          by_cases hlt : j < k
          · obtain ⟨g2, rfl, cy⟩ := own_at HA3.out (j := j) (z := .float .f64 (smN wt (List.replicate k x) j)) (by
              rw [List.getElem?_map, smL_at wt _ (by rw [hl2]; exact hlt)]; rfl)
            have ho : (FloatKind.f64.format.order (smN wt (List.replicate k x) j) (floatOfInt .f64 x) != some .eq) = false := by
              rw [show FloatKind.f64.format.order (smN wt (List.replicate k x) j) (floatOfInt .f64 x) = some .eq from Flt.order_int (hSM.out j hlt) (Flt.fx_Is' (x := x) (by have := HX.out; rw [B_val]; omega))]; rfl
            generalize smN wt (List.replicate k x) j = N at cy ho
            go_wp2
            go_roundw
            case rel => exact ⟨j + 1, by omega, rfl, trivial⟩
            case measure => simp [intOf]; omega
          · have hjk : j = k := by omega
            clear hjk
            go_wp2
            go_ret
            exact ⟨rfl, HB4.out⟩
end Go.Proofs.Ytkaigmoeagjjgab

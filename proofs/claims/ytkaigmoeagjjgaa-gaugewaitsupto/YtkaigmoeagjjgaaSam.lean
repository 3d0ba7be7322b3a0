import Derived.Test.YtkaigmoeagjjgaaBas2
import Derived.Test.YtkaigmoeagjjgaaShr
namespace Go.Proofs.Ytkaigmoeagjjgaa
open Go.RowKit
set_option linter.unusedVariables false

set_option maxHeartbeats 1000000 in
theorem sameInts_any {w : World} {v u : Value} {a b : List Int} (h : IntsAt w v a) (h2 : IntsAt w u b) (hn : a.length ≤ 1048576) : Calls Try.prog 19 #[v, u] w fun e w' => e = .returned (.bool (decide (a = b))) ∧ ∃ q, w' = w.drewN q := by
  obtain ⟨ao, c, rfl⟩ := h.form
  obtain ⟨bo, d, rfl⟩ := h2.form
  obtain ⟨hc, _⟩ := h.cap
  obtain ⟨hd, _⟩ := h2.cap
  obtain ⟨R, hR⟩ : ∃ R, Hid (R = decide (a = b)) := ⟨_, rfl⟩
  rw [← hR.out]
  have H1 := hid h
  have H2 := hid h2
  clear h h2
  by_cases hl : a.length = b.length
  · have nl : ((a.length : Int) != (b.length : Int)) = false := by simp [hl]
    have HL := hid hl
    have hdb : a.length ≤ d := by omega
    clear hl
    go_enter Try.func19, Try.ntmps19
    go_wp2
    go_loopw [5] (fun s wr => ∃ k q : Nat, k ≤ a.length ∧ a.take k = b.take k ∧ s = .int .i64 (k : Int) ∧ wr = w.drewN q) (fun s _ => a.length - (intOf s).toNat)
    case atStart => exact ⟨0, 0, Nat.zero_le _, rfl, rfl, rfl⟩
    case round =>
      obtain ⟨k, q, hk, hE, rfl, rfl⟩ := hrel
      by_cases hlt : k < a.length
      · obtain ⟨x, hx⟩ : ∃ x, a[k]? = some x := ⟨_, List.getElem?_eq_getElem hlt⟩
        obtain ⟨y, hy⟩ : ∃ x, b[k]? = some x := ⟨_, List.getElem?_eq_getElem (by have := HL.out; omega)⟩
        obtain ⟨g, off, rfl, hg, ca⟩ := H1.out.at hx
        obtain ⟨g', off', rfl, hg', cb⟩ := H2.out.at hy
        have c1 : (w.drewN q).drew.cell? ⟨g, off + k, none⟩ = some (.int .i64 x) := ca
        have c2 : (w.drewN q).drew.cell? ⟨g', off' + k, none⟩ = some (.int .i64 y) := cb
        have hkb : k < b.length := by have := HL.out; omega
        have HX := hid hx
        have HY := hid hy
        have HE := hid hE
        clear hx hy hE
        by_cases hxy : x = y
        · have db : (x != y) = false := by simp [hxy]
          have hE2 := hid (show a.take (k + 1) = b.take (k + 1) by rw [take_snoc HX.out, take_snoc HY.out, HE.out, hxy])
          clear hxy
          go_upto_region 6 with fail
          go_region
          go_wp2
          go_roundw
          case rel => exact ⟨k + 1, q + 1, by omega, hE2.out, rfl, rfl⟩
          case measure => simp [intOf]; omega
        · have db : (x != y) = true := by simp [hxy]
          have e : R = false := by
            rw [hR.out]
            refine decide_eq_false fun e => hxy ?_
            have := HX.out; rw [e, HY.out] at this; exact (Option.some.inj this).symm
          subst e
          clear hR hxy
          go_upto_region 6 with fail
          go_region
          go_wp2
          go_ret
          exact ⟨rfl, q + 1, rfl⟩
      · have hkk : k = a.length := by omega
        have e : R = true := by
          rw [hR.out]
          refine decide_eq_true ?_
          have := hE
          rwa [List.take_of_length_le (by omega), List.take_of_length_le (by have := HL.out; omega)] at this
        subst e
        clear hR hE hkk
        go_wp2
        go_ret
        exact ⟨rfl, q, rfl⟩
  · have e : R = false := by
      rw [hR.out]
      exact decide_eq_false fun e => hl (by rw [e])
    have nl : ((a.length : Int) != (b.length : Int)) = true := by
      rw [bne_iff_ne]; omega
    subst e
    clear hR hl
    go_enter Try.func19, Try.ntmps19
    go_wp2
    go_ret
    exact ⟨rfl, 0, rfl⟩

theorem ints_at_blk {w : World} {b c : Nat} {xs : List Int} (h : w.heap[b]? = some (.cells (ints xs).toArray 3 (0, 0))) (hc : xs.length ≤ c) : IntsAt w (.slice (some ⟨b, 0, none⟩) xs.length c) xs :=
  ⟨_, c, rfl, hc, .inr ⟨b, 0, rfl, (Array.getElem?_eq_some_iff.1 h).1, fun j u hu => by rw [cell_at h, Nat.zero_add]; exact (List.getElem?_toArray ..).trans hu⟩⟩
theorem ints_of_own {w : World} {v : Value} {xs : List Int} (h : w.ownsRow 0 3 1 v xs.length (ints xs)) : IntsAt w v xs := by
  rcases h.2 with ⟨rfl, e⟩ | ⟨g, cap, cur, rfl, hg0, hg, hn, hm, hcs, ht⟩
  · have : xs = [] := List.eq_nil_of_length_eq_zero e
    subst this
    exact ⟨none, 0, rfl, Nat.le_refl _, .inl ⟨rfl, fun _ => rfl⟩⟩
  · refine ⟨_, cap, rfl, hn, .inr ⟨g, 0, rfl, (Array.getElem?_eq_some_iff.1 hg).1, fun j u hu => ?_⟩⟩
    rw [cell_at hg, Nat.zero_add]
    rw [← ht, List.getElem?_take] at hu
    split at hu
    · simpa using hu
    · cases hu
theorem ints_of_all {w : World} {v : Value} {xs : List Int} {cs : List Comp} (h : All (ownC 3 v (ints xs) :: cs) w) : IntsAt w v xs := by
  have h' : w.ownsRow 0 3 1 v (ints xs).length (ints xs) := h.1.2.1
  rw [List.length_map] at h'
  exact ints_of_own h'

/-! the document's first examples -/
theorem ex_mean : meanF [2, 4, 4, 4, 5, 5, 7, 9] = 4617315517961601024 := by decide +kernel
theorem ex_dev : devF [2, 4, 4, 4, 5, 5, 7, 9] 4617315517961601024 = 4611686018427387904 := by decide +kernel
theorem ex_min : minI [2, 4, 4, 4, 5, 5, 7, 9] = 2 := by decide
theorem ex_max : maxI [2, 4, 4, 4, 5, 5, 7, 9] = 9 := by decide
theorem ex_half : isP 4602678819172646912 = true := by decide +kernel
theorem ex_sort : srt [5, 1, 9, 3] = [1, 3, 5, 9] := by
  simp [srt, List.mergeSort, List.MergeSort.Internal.splitInTwo]
theorem ex_o1 : Ieee.double.order (Flt.fx (1 : Nat)) (wantF 4602678819172646912 4) = some .lt := by decide +kernel
theorem ex_o2 : Ieee.double.order (Flt.fx (2 : Nat)) (wantF 4602678819172646912 4) = some .eq := by decide +kernel
theorem ex_share {r : Int} (h : ShP [5, 1, 9, 3] 4602678819172646912 r) : r = 3 := by
  obtain ⟨k, h1, h2, h3, h4, h5⟩ := h
  rw [show [(5 : Int), 1, 9, 3].length = 4 from rfl] at h3 h4
  have hk : k = 2 := by
    by_cases c : k = 1
    · subst c; exact absurd ex_o1 h4
    · by_cases d : 2 < k
      · have := h3 2 (by omega) d
        rw [ex_o2] at this
        cases this
      · omega
  subst hk
  rw [ex_sort] at h5
  simpa using h5.symm
theorem ex_bars : barsL [1, 5, 5, 9] [5, 8] = [1, 2, 1] := by decide
theorem ex_ris : Ris [5, 8] := by unfold Ris; decide
end Go.Proofs.Ytkaigmoeagjjgaa

import Derived.Test.YtkaigmoeagjjgabTot
import Derived.Test.YtkaigmoeagjjgabApp
namespace Go.Proofs.Ytkaigmoeagjjgab
open Go.RowKit
attribute [local go_sem] run_store_float
set_option linter.unusedVariables false

theorem barO_len (l es : List Int) : (barO l es).length ≤ 4097 := by
  unfold barO
  split
  · rename_i h
    rw [barsL_len]
    unfold barE at h
    by_cases c : 4096 < l.length ∨ 4096 < es.length
    · rw [if_pos c] at h; exact absurd h (by decide)
    · omega
  · simp
theorem rev_take {l : List Int} {k j : Nat} {x : Int} (hkj : k + (j + 1) = l.length) (hx : l[j]? = some x) : l.reverse.take (k + 1) = l.reverse.take k ++ [x] := by
  refine take_snoc ?_
  rw [List.getElem?_reverse (by omega), show l.length - 1 - k = j by omega]
  exact hx

set_option maxHeartbeats 4000000 in
theorem order_law {w : World} {v u : Value} {l es : List Int} {p : Nat} (h : IntsAt w v l) (h2 : IntsAt w u es) (hs : Sm l) (hz : l.length * 8 ≤ 140737488351232) (hp : p < 18446744073709551616) : Calls Try.prog 4 #[v, u, .float .f64 p] w fun e w' => e = .returned (.bool true) ∧ Below w.heap.size w w' := by
  obtain ⟨ao, c, rfl⟩ := h.form
  obtain ⟨bo, d, rfl⟩ := h2.form
  obtain ⟨hc, _⟩ := h.cap
  have H := hid h
  have H2 := hid h2
  have HS := hid hs
  clear h h2 hs
  go_enter Try.func4, Try.ntmps4
  go_wp2_with fail
  refine shown_any.mono ?_
  rintro e w1 ⟨rfl, hb1⟩
  have HB1 := hid hb1
  clear hb1
  have A0 := hid (own_nil (All.came w1))
  go_wp2
  generalize w1.alloc (.cells #[] 3) = wa at A0 ⊢
  go_loopw [7, 8] (fun u s wr => ∃ (k j oc : Nat) (oo : Option Addr), k + j = l.length ∧ u = .slice oo k oc ∧ s = .int .i64 ((j : Int) - 1) ∧ All [ownC 3 u (ints (l.reverse.take k)), inC w1] wr) (fun _ s _ => (intOf s + 1).toNat)
  case atStart => exact ⟨0, l.length, 0, _, by omega, rfl, rfl, A0.out⟩
  case round =>
    obtain ⟨k, j, oc, oo, hkj, rfl, rfl, hA⟩ := hrel
    have HA := hid hA
    clear hA A0
    have hbw := inC_of (w := w1) HA.out (by simp)
    have HB2 := hid (HB1.out.trans (hbw.mono HB1.out.size))
    cases j with
    | succ j =>
      obtain ⟨x, hx⟩ : ∃ x, l[j]? = some x := ⟨_, List.getElem?_eq_getElem (by omega)⟩
      obtain ⟨g, off, rfl, hg, cx⟩ := H.out.at hx
      have cx2 := (HB2.out.cell (p := ⟨g, off + j, none⟩) hg).trans cx
      have ht := hid (rev_take hkj hx)
      have hjl : j < l.length := by omega
      have hkl : (l.reverse.take k).length = k := by rw [List.length_take, List.length_reverse]; omega
      rw [show ((j + 1 : Nat) : Int) - 1 = (j : Int) by omega]
      have HKJ := hid hkj
      have A1 := hid (HA.out.alloc (.cells #[.int .i64 x] 3))
      have HKL := hid hkl
      have hb8 : ((l.reverse.take k).length + [x].length) * 8 ≤ 140737488355328 := by rw [hkl, List.length_singleton]; omega
      clear hx cx hbw hkj hkl HB2
      go_wp2_with (at_builtin; refine wpList_app rfl rfl A1.out rfl rfl (ints_new _ _) hb8 ?_; intro v' w' hA2 hf hsz; obtain ⟨oo2, oc2, rfl⟩ := hf; have HA2 := hid hA2; clear hA2 hsz)
      have hfin := hid (show All [ownC 3 (.slice oo2 (k + 1) oc2) (ints (l.reverse.take (k + 1))), inC w1] w' by
        have h := HA2.out
        rw [← ht.out] at h
        simpa only [HKL.out, List.length_singleton] using h)
      clear HA2 A1 HA
      have hkj2 := HKJ.out
      go_wp2
      rw [show min k l.length = k by omega]
      exact ⟨⟨k + 1, j, oc2, oo2, by omega, rfl, rfl, hfin.out⟩, by simp [intOf]⟩
    | zero =>
      rw [show ((0 : Nat) : Int) - 1 = -1 from rfl]
      have hk : k = l.length := by omega
      subst hk
      have hback : IntsAt wr (.slice oo l.length oc) l.reverse := by
        have h := ints_of_all HA.out
        rwa [List.take_of_length_le (by simp)] at h
      have hSR : Sm l.reverse := fun x hx => HS.out x (List.mem_reverse.1 hx)
      have HSR := hid hSR
      have HK := hid hback
      have cB := hid (Bars_tot (H.out.later HB2.out) (H2.out.later HB2.out))
      clear hbw hback HA hkj hSR
      go_wp2_with fail
      refine cB.out.mono ?_
      rintro e w2 ⟨x, rfl, hx, hb2⟩
      have HX := hid hx
      have HB3 := hid (HB2.out.trans (hb2.mono HB2.out.size))
      have HK2 := hid (HK.out.later hb2)
      have cB2 := hid (Bars_tot HK2.out (H2.out.later HB3.out))
      rw [barE_rev, barO_rev] at cB2
      clear hx hb2 cB HK HB2
      go_wp2_with fail
      refine cB2.out.mono ?_
      rintro e w3 ⟨y, rfl, hy, hb3⟩
      have HX3 := hid (HX.out.later hb3)
      have HY := hid hy
      have HB4 := hid (HB3.out.trans (hb3.mono HB3.out.size))
      have HK3 := hid (HK2.out.later hb3)
      have cs := hid (sameInts_any HX3.out HY.out (Nat.le_trans (barO_len l es) (by decide)))
      simp only [decide_true] at cs
      have e0 : (barE l es != barE l es) = false := by simp
      generalize barE l es = E1 at e0 ⊢
      clear hy hb3 cB2 HB3 HX HK2
      go_wp2_with fail
      refine cs.out.mono ?_
      rintro e w4 ⟨rfl, q, rfl⟩
      have HB5 := hid (HB4.out.trans (bdN' _ w3 q))
      have cS := hid (Share_tot (p := p) (H.out.later HB5.out) hp)
      have HK4 := hid (HK3.out.later (bdN w3 q))
      clear cs HB4 HK3 HX3 HY
      go_wp2_with fail
      refine cS.out.mono ?_
      rintro e w5 ⟨r1, rfl, hr1, hb6⟩
      have HR1 := hid hr1
      have HB6 := hid (HB5.out.trans (hb6.mono HB5.out.size))
      have HK5 := hid (HK4.out.later hb6)
      have cS2 := hid (Share_tot (p := p) HK5.out hp)
      rw [shE_rev] at cS2
      clear cS hr1 hb6 HB5 HK4
      go_wp2_with fail
      refine cS2.out.mono ?_
      rintro e w6 ⟨r2, rfl, hr2, hb7⟩
      obtain rfl : r1 = r2 := HR1.out.one (ShR_rev hr2)
      have HB7 := hid (HB6.out.trans (hb7.mono HB6.out.size))
      have HK6 := hid (HK5.out.later hb7)
      have cO := hid (Of_tot (H.out.later HB7.out) HS.out)
      have e1 : (shE l p != shE l p) = false := by simp
      have e2 : (r1 != r1) = false := by simp
      generalize shE l p = E2 at e1 ⊢
      clear cS2 hr2 hb7 HB6 HK5 HR1
      go_wp2_with fail
      refine cO.out.mono ?_
      rintro e w7 ⟨f1, g1, rfl, hb8⟩
      obtain ⟨a0, ha0⟩ : ∃ a0, Hid (a0 = ofA l) := ⟨_, rfl⟩
      obtain ⟨a1, ha1⟩ : ∃ a0, Hid (a0 = ofB l) := ⟨_, rfl⟩
      obtain ⟨a2, ha2⟩ : ∃ a0, Hid (a0 = ofC l) := ⟨_, rfl⟩
      rw [← ha0.out, ← ha1.out, ← ha2.out]
      have hbA := ba w7 (.cells #[.int .i64 a0, .int .i64 a1, .int .i64 a2, .float .f64 f1, .float .f64 g1] 26)
      have eC := hid (heap_alloc_new' w7 (.cells #[.int .i64 a0, .int .i64 a1, .int .i64 a2, .float .f64 f1, .float .f64 g1] 26))
      have HB8 := hid ((HB7.out.trans (hb8.mono HB7.out.size)).trans (hbA.mono (Nat.le_trans HB7.out.size hb8.size)))
      have HK7 := hid ((HK6.out.later hb8).later hbA)
      have cO2 := hid (Of_tot HK7.out HSR.out)
      rw [(of_rev l).1, (of_rev l).2.1, (of_rev l).2.2, List.length_reverse, ← ha0.out, ← ha1.out, ← ha2.out] at cO2
      have e3 : (ofE l.length == ofE l.length) = true := by simp
      generalize ofE l.length = E3 at cO2 e3 ⊢
      clear cO hb8 HB7 HK6 hbA ha0 ha1 ha2
      go_wp2_with fail
      refine cO2.out.mono ?_
      rintro e w8 ⟨f2, g2, rfl, hb9⟩
      have eC8 := (hb9.block w7.heap.size (by simp)).trans eC.out
      have k0 : w8.cell? ⟨w7.heap.size, 0, none⟩ = some (.int .i64 a0) := by rw [cell_at eC8]; rfl
      have k1 : w8.cell? ⟨w7.heap.size, 1, none⟩ = some (.int .i64 a1) := by rw [cell_at eC8]; rfl
      have k2 : w8.cell? ⟨w7.heap.size, 2, none⟩ = some (.int .i64 a2) := by rw [cell_at eC8]; rfl
      have hlt8 : w7.heap.size < w8.heap.size := by have := hb9.size; simp at this; omega
      have HB9 := hid (HB8.out.trans (hb9.mono HB8.out.size))
      have b0 : (a0 == a0) = true := by simp
      have b1 : (a1 == a1) = true := by simp
      have b2 : (a2 == a2) = true := by simp
      generalize w7.heap.size = BB at k0 k1 k2 hlt8 ⊢
      clear cO2 hb9 HB8 HK7 eC eC8
      go_wp2
      go_ret
      exact ⟨rfl, HB9.out.trans ((ba w8 _).mono HB9.out.size)⟩
end Go.Proofs.Ytkaigmoeagjjgab

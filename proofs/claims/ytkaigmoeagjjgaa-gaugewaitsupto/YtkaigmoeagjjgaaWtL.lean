import Derived.Test.YtkaigmoeagjjgaaWt9
import Derived.Test.YtkaigmoeagjjgaaMrk
import Derived.Test.YtkaigmoeagjjgaaSmL
namespace Go.Proofs.Ytkaigmoeagjjgaa
open Go.RowKit
set_option linter.unusedVariables false

theorem ownI_form {w : World} {u : Value} {vs : List Int} {cs : List Comp} (h : All (ownC 3 u (ints vs) :: cs) w) : ∃ oo oc, u = .slice oo vs.length oc ∧ vs.length ≤ oc := by
  obtain ⟨oo, oc, e⟩ := (ints_of_all h).form
  subst e
  exact ⟨oo, oc, rfl, (ints_of_all h).cap.1⟩

set_option maxRecDepth 100000 in
set_option maxHeartbeats 4000000 in
theorem waits_law {w : World} {v : Value} {H : List (List Ev)} (h : HistAt w v H) (hw : ∀ r ∈ H, ∀ e ∈ r, okI e.a ∧ okI e.n) (ht : tot H ≤ 1048576) (hn : H.length ≤ 1048576) : Calls Try.prog 7 #[v] w fun e w' => e = .returned (.bool true) ∧ Below w.heap.size w w' := by
  obtain ⟨ao, c, e, hc, hh⟩ := h
  subst e
  have h : HistAt w (.slice ao H.length c) H := ⟨ao, c, rfl, hc, hh⟩
  have HI := hid h
  have C1 : Hid (∀ (W : World), HistAt W (.slice ao H.length c) H → Calls Try.prog 24 #[.slice ao H.length c] W fun e w' => ∃ oo oc, e = .returned (.slice oo (tooks (wall H)).length oc) ∧ All [ownC 3 (.slice oo (tooks (wall H)).length oc) (ints (tooks (wall H))), inC W] w') := hid (fun W hx => Waits_any hx hw ht hn)
  have C2 : Hid (∀ (W : World), HistAt W (.slice ao H.length c) H → Calls Try.prog 25 #[.slice ao H.length c] W fun e w' => ∃ oo oc, e = .returned (.slice oo (tooks (wall H)).length oc) ∧ All [ownC 3 (.slice oo (tooks (wall H)).length oc) (ints (tooks (wall H))), inC W] w') := hid (fun W hx => rWaits_any hx ht hn)
  have hOl : (tooks (wall H)).length ≤ 1048576 := by
    unfold tooks
    rw [List.length_map]
    exact Nat.le_trans (List.length_filter_le _ _) (Nat.le_trans (wall_len H) ht)
  generalize tooks (wall H) = O at C1 C2 hOl
  have CF : Hid (∀ (W : World) (x y : Value), IntsAt W x O → IntsAt W y O → Calls Try.prog 19 #[x, y] W fun e w' => e = .returned (.bool true) ∧ ∃ q, w' = W.drewN q) := hid (fun W x y hx hy => by
    have := sameInts_any hx hy (by omega)
    rwa [decide_eq_true (rfl : O = O)] at this)
  clear h hh hw ht
  go_enter Try.func7, Try.ntmps7
  go_wp2_with fail
  refine shown_any.mono ?_
  rintro e w1 ⟨rfl, hb1⟩
  have HB1 := hid hb1
  have c1 := hid (C1.out _ (HI.out.later hb1))
  clear hb1
  -- x
  go_wp2_with fail
  refine c1.out.mono ?_
  rintro e w3 ⟨ox, cx, rfl, hA3⟩
  have hcx := (ints_of_all hA3).cap.1
  have HA3 := hid hA3
  have hb3 := inC_of (w := w1) hA3 (by simp)
  have c2 := hid (C1.out _ (HI.out.later (HB1.out.trans (hb3.mono HB1.out.size))))
  clear c1 hA3 hb3
  -- y
  go_wp2_with fail
  refine c2.out.mono ?_
  rintro e w4 ⟨oy, cy, rfl, hA4⟩
  have hcy := (ints_of_all hA4).cap.1
  have HA4 := hid (HA3.out.join hA4)
  have hb4 := inC_of (w := w1) HA4.out (by simp)
  have c3 := hid (C2.out _ (HI.out.later (HB1.out.trans (hb4.mono HB1.out.size))))
  clear c2 hA4 HA3 hb4
  -- want
  go_wp2_with fail
  refine c3.out.mono ?_
  rintro e w5 ⟨oz, cz, rfl, hA5⟩
  have hcz := (ints_of_all hA5).cap.1
  have HA5 := hid (HA4.out.join hA5)
  have c4 := hid (CF.out _ _ _ (ints_of_all HA5.out.rot3) (ints_of_all HA5.out))
  clear c3 hA5 HA4
  go_wp2_with fail
  refine c4.out.mono ?_
  rintro e w6 ⟨rfl, q6, rfl⟩
  have HA6 := hid (HA5.out.drewN q6)
  clear c4 HA5
  generalize w5.drewN q6 = w6 at HA6 ⊢
  have c5 := hid (CF.out _ _ _ (ints_of_all HA6.out.swap) (ints_of_all HA6.out))
  go_wp2_with fail
  refine c5.out.mono ?_
  rintro e w7 ⟨rfl, q7, rfl⟩
  have HA7 := hid (HA6.out.drewN q7)
  clear c5 HA6
  generalize w6.drewN q7 = w7 at HA7 ⊢
  have c6 := hid (marked_any (mark := 100) HA7.out.rot3 hOl (by decide))
  go_wp2_with fail
  refine c6.out.mono ?_
  rintro e w8 ⟨rfl, hA8⟩
  have HA8 := hid hA8
  clear c6 HA7 hA8
  have c7 := hid (CF.out _ _ _ (ints_of_all HA8.out.swap) (ints_of_all HA8.out))
  go_wp2_with fail
  refine c7.out.mono ?_
  rintro e w9 ⟨rfl, q9, rfl⟩
  have HA9 := hid (HA8.out.drewN q9)
  clear c7 HA8
  generalize w8.drewN q9 = w9 at HA9 ⊢
  have c8 := hid (marked_any (mark := 900) HA9.out.swap hOl (by decide))
  go_wp2_with fail
  refine c8.out.mono ?_
  rintro e w10 ⟨rfl, hA10⟩
  have hbl := hid (HB1.out.trans ((inC_of (w := w1) hA10 (by simp)).mono HB1.out.size))
  clear c8 HA9 hA10
  go_wp2
  go_ret
  exact ⟨rfl, hbl.out⟩
end Go.Proofs.Ytkaigmoeagjjgaa

import Derived.Test.YtkaigmoeagjjgaaBaO
import Derived.Test.YtkaigmoeagjjgaaMrk
import Derived.Test.YtkaigmoeagjjgaaSmL
namespace Go.Proofs.Ytkaigmoeagjjgaa
open Go.RowKit
set_option linter.unusedVariables false

theorem All.pull {c : Comp} {cs ds : List Comp} {w : World} (h : All (cs ++ c :: ds) w) : All (c :: (cs ++ ds)) w := h.perm List.perm_middle

set_option maxHeartbeats 8000000 in
theorem bars_law {w : World} {v u : Value} {l es : List Int} (h : IntsAt w v l) (h2 : IntsAt w u es) (hz : l.length * 8 ≤ 140737488351232) (hz2 : es.length * 8 ≤ 140737488351232) : Calls Try.prog 5 #[v, u] w fun e w' => e = .returned (.bool true) ∧ Below w.heap.size w w' := by
  obtain ⟨ao, c, rfl⟩ := h.form
  obtain ⟨bo, d, rfl⟩ := h2.form
  have H := hid h
  have H2 := hid h2
  have C1 : Hid (∀ (W : World) (x y : Value), IntsAt W x l → IntsAt W y es → Calls Try.prog 17 #[x, y] W fun e w' => ∃ oo oc, e = .returned (.tuple #[.slice oo (barO l es).length oc, .int .i64 (barE l es)]) ∧ (barO l es).length ≤ oc ∧ All [ownC 3 (.slice oo (barO l es).length oc) (ints (barO l es)), inC W] w') := hid (fun W x y hx hy => Bars_own hx hy)
  have C2 : Hid (∀ (W : World) (x y : Value), IntsAt W x l → IntsAt W y es → Calls Try.prog 18 #[x, y] W fun e w' => ∃ oo oc, e = .returned (.tuple #[.slice oo (barO l es).length oc, .int .i64 (barE l es)]) ∧ (barO l es).length ≤ oc ∧ All [ownC 3 (.slice oo (barO l es).length oc) (ints (barO l es)), inC W] w') := hid (fun W x y hx hy => rBars_own hx hy)
  have ee : (barE l es != barE l es) = false := by simp
  have ee2 : (barE l es == barE l es) = true := by simp
  have hOl := barO_len l es
  generalize barE l es = E at ee ee2 C1 C2
  generalize barO l es = O at C1 C2 hOl
  have CF : Hid (∀ (W : World) (x y : Value), IntsAt W x O → IntsAt W y O → Calls Try.prog 19 #[x, y] W fun e w' => e = .returned (.bool true) ∧ ∃ q, w' = W.drewN q) := hid (fun W x y hx hy => by
    have := sameInts_any hx hy (by omega)
    rwa [decide_eq_true (rfl : O = O)] at this)
  clear h h2
  go_enter Try.func5, Try.ntmps5
  go_wp2_with fail
  refine shown_any.mono ?_
  rintro e w1 ⟨rfl, hb1⟩
  have HB1 := hid hb1
  have cl := hid (lent_any (H.out.later hb1) hz)
  clear hb1
  go_wp2_with fail
  refine cl.out.mono ?_
  rintro e w2 ⟨x, rfl, hA⟩
  have hi := ints_of_all hA
  obtain ⟨oa, ca, rfl⟩ := hi.form
  have hll : (lentL l).length = l.length + 8 := by simp [lentL]
  have hcap := hi.cap.1
  rw [hll] at hcap hA hi ⊢
  have HA := hid hA
  have ha1 : l.length ≤ ca := by omega
  have ha2 : l.length ≤ l.length + 8 := by omega
  have hb2 := inC_of (w := w1) HA.out (by simp)
  have cl2 := hid (lent_any (H2.out.later (HB1.out.trans (hb2.mono HB1.out.size))) hz2)
  clear hi hA cl hll hb2
  go_wp2_with fail
  refine cl2.out.mono ?_
  rintro e w3 ⟨x, rfl, hA3⟩
  have hi := ints_of_all hA3
  obtain ⟨ob, cb, rfl⟩ := hi.form
  have hll : (lentL es).length = es.length + 8 := by simp [lentL]
  have hcap2 := hi.cap.1
  rw [hll] at hcap2 hA3 hi ⊢
  have HA3 := hid (HA.out.join hA3)
  have hb3 : es.length ≤ cb := by omega
  have hb4 : es.length ≤ es.length + 8 := by omega
  clear hi hA3 cl2 hll HA
  have c1 := hid (C1.out w3.drew _ _ (lent_front (ints_of_all HA3.out.drew.swap)) (lent_front (ints_of_all HA3.out.drew)))
  -- x
  go_wp2_with fail
  go_upto_region 5 with fail
  go_region_held3 (fun _ => True) (trivial)
    (first
      | (go_at_call 17; refine c1.out.mono ?_; rintro e w4 ⟨ox, cx, rfl, hcx, hA4⟩; have HA4 := hid (HA3.out.drew.join hA4); clear hA4))
  clear c1 HA3
  -- y
  have c2 := hid (C1.out w4.drew _ _ (lent_front (ints_of_all HA4.out.drew.rot3)) (lent_front (ints_of_all HA4.out.drew.swap)))
  go_wp2_with fail
  go_upto_region 6 with fail
  go_region_held3 (fun _ => True) (trivial)
    (first
      | (go_at_call 17; refine c2.out.mono ?_; rintro e w5 ⟨oy, cy, rfl, hcy, hA5⟩; have HA5 := hid (HA4.out.drew.join hA5); clear hA5))
  clear c2 HA4
  -- want
  have hb5 := inC_of (w := w1) HA5.out (by simp)
  have hb6 := HB1.out.trans (hb5.mono HB1.out.size)
  have c3 := hid (C2.out _ _ _ (H.out.later hb6) (H2.out.later hb6))
  clear hb5 hb6
  go_wp2_with fail
  refine c3.out.mono ?_
  rintro e w6 ⟨oz, cz, rfl, hcz, hA6⟩
  have HA6 := hid (HA5.out.join hA6)
  clear c3 hA6 HA5
  have c4 := hid (CF.out _ _ _ (ints_of_all HA6.out.rot3) (ints_of_all HA6.out))
  go_wp2_with fail
  refine c4.out.mono ?_
  rintro e w7 ⟨rfl, q7, rfl⟩
  have HA7 := hid (HA6.out.drewN q7)
  clear c4 HA6
  generalize w6.drewN q7 = w7 at HA7 ⊢
  have c5 := hid (CF.out _ _ _ (ints_of_all HA7.out.swap) (ints_of_all HA7.out))
  go_wp2_with fail
  refine c5.out.mono ?_
  rintro e w8 ⟨rfl, q8, rfl⟩
  have HA8 := hid (HA7.out.drewN q8)
  clear c5 HA7
  generalize w7.drewN q8 = w8 at HA8 ⊢
  have c6 := hid (marked_any (mark := 1000) HA8.out.rot3 (by omega) (by decide))
  go_wp2_with fail
  refine c6.out.mono ?_
  rintro e w9 ⟨rfl, hA9⟩
  have HA9 := hid hA9
  clear c6 HA8 hA9
  have c7 := hid (CF.out _ _ _ (ints_of_all HA9.out.swap) (ints_of_all HA9.out))
  go_wp2_with fail
  refine c7.out.mono ?_
  rintro e w10 ⟨rfl, q10, rfl⟩
  have HA10 := hid (HA9.out.drewN q10)
  clear c7 HA9
  generalize w9.drewN q10 = w10 at HA10 ⊢
  have hb10 := inC_of (w := w1) HA10.out (by simp)
  have c8 := hid (still_any (ints_of_all (HA10.out.pull (cs := [_, _, _]))) (H.out.later (HB1.out.trans (hb10.mono HB1.out.size))) hz)
  clear hb10
  go_wp2_with fail
  refine c8.out.mono ?_
  rintro e w11 ⟨rfl, q11, rfl⟩
  have HA11 := hid (HA10.out.drewN q11)
  clear c8 HA10
  generalize w10.drewN q11 = w11 at HA11 ⊢
  have hb11 := inC_of (w := w1) HA11.out (by simp)
  have c9 := hid (still_any (ints_of_all HA11.out.rot3) (H2.out.later (HB1.out.trans (hb11.mono HB1.out.size))) hz2)
  clear hb11
  go_wp2_with fail
  refine c9.out.mono ?_
  rintro e w12 ⟨rfl, q12, rfl⟩
  have HA12 := hid (HA11.out.drewN q12)
  clear c9 HA11
  generalize w11.drewN q12 = w12 at HA12 ⊢
  have c10 := hid (marked_any (mark := 5000) HA12.out.swap (by omega) (by decide))
  go_wp2_with fail
  refine c10.out.mono ?_
  rintro e w13 ⟨rfl, hA13⟩
  have HA13 := hid hA13
  clear c10 HA12 hA13
  have c11 := hid (C1.out w13.drew _ _ (lent_front (ints_of_all HA13.out.drew.rot3)) (lent_front (ints_of_all HA13.out.drew.swap)))
  go_wp2_with fail
  go_upto_region 12 with fail
  go_region_held3 (fun _ => True) (trivial)
    (first
      | (go_at_call 17; refine c11.out.mono ?_; rintro e w14 ⟨ot, ct, rfl, hct, hA14⟩; have HA14 := hid (HA13.out.drew.join hA14); clear hA14))
  clear c11 HA13
  have c12 := hid (CF.out _ _ _ (ints_of_all HA14.out) (ints_of_all HA14.out.swap))
  have hbl := hid (HB1.out.trans ((inC_of (w := w1) HA14.out (by simp)).mono HB1.out.size))
  go_wp2_with fail
  refine c12.out.mono ?_
  rintro e w15 ⟨rfl, q15, rfl⟩
  go_wp2
  go_ret
  exact ⟨rfl, hbl.out.trans (bdN' _ _ _)⟩
end Go.Proofs.Ytkaigmoeagjjgaa

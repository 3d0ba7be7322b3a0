import Derived.Test.YtkaigmoeagjjgaaRfM
namespace Go.Proofs.Ytkaigmoeagjjgaa
open Go.RowKit
attribute [local go_sem] run_store_float
set_option linter.unusedVariables false

theorem All.rot3 {a b c d : Comp} {cs : List Comp} {w : World} (h : All (a :: b :: c :: d :: cs) w) : All (c :: a :: b :: d :: cs) w :=
  h.perm ((List.Perm.swap c b (d :: cs)).cons a |>.trans (List.Perm.swap c a (b :: d :: cs)))
theorem ownF_form {w : World} {u : Value} {vs : List Nat} {cs : List Comp} (h : All (ownC 25 u (flts vs) :: cs) w) : ∃ oo oc, u = .slice oo vs.length oc ∧ vs.length ≤ oc := by
  obtain ⟨oo, oc, e⟩ := (flts_of_all h).form
  subst e
  exact ⟨oo, oc, rfl, (flts_of_all h).cap.1⟩

set_option maxHeartbeats 4000000 in
theorem smooth_law {w : World} {v : Value} {l : List Int} {p : Nat} (h : IntsAt w v l) (hs : Sm l) (hz : l.length * 8 ≤ 140737488351232) (hp : p < 18446744073709551616) : Calls Try.prog 6 #[v, .float .f64 p] w fun e w' => e = .returned (.bool true) ∧ Below w.heap.size w w' := by
  obtain ⟨ao, c, rfl⟩ := h.form
  have H := hid h
  have C1 : Hid (∀ (W : World) (x : Value), IntsAt W x l → Calls Try.prog 21 #[x, .float .f64 p] W fun e w' => ∃ u, e = .returned (.tuple #[u, .int .i64 (smE l p)]) ∧ All [ownC 25 u (flts (smO l p)), inC W] w') := hid (fun W x hx => Smooth_tot hx hs hp)
  have C2 : Hid (∀ (W : World) (x : Value), IntsAt W x l → Calls Try.prog 22 #[x, .float .f64 p] W fun e w' => ∃ u, e = .returned (.tuple #[u, .int .i64 (smE l p)]) ∧ All [ownC 25 u (flts (smO l p)), inC W] w') := hid (fun W x hx => rSmooth_tot hx hs hp)
  have NN := hid (smO_nn hs hp)
  have ee : (smE l p != smE l p) = false := by simp
  have ee2 : (smE l p == smE l p) = true := by simp
  have hOl := smO_len l p
  generalize smE l p = E at ee ee2 C1 C2
  generalize smO l p = O at C1 C2 NN hOl
  have CF := hid (fun (W : World) (x y : Value) (hx : FAt W x O) (hy : FAt W y O) => sameFloats_any hx hy NN.out (by omega))
  clear h hs hp
  go_enter Try.func6, Try.ntmps6
  go_wp2_with fail
  refine shown_any.mono ?_
  rintro e w1 ⟨rfl, hb1⟩
  have HB1 := hid hb1
  have cl := hid (lent_any (H.out.later hb1) hz)
  clear hb1
  go_wp2_with fail
  refine cl.out.mono ?_
  rintro e w2 ⟨x, rfl, hA⟩
  have hi := ints_of_all hA
  obtain ⟨oo, oc, rfl⟩ := hi.form
  have hll : (lentL l).length = l.length + 8 := by simp [lentL]
  have hcap := hi.cap.1
  rw [hll] at hcap hA hi ⊢
  have HA := hid hA
  have hc1 : l.length ≤ oc := by omega
  have hc2 : l.length ≤ l.length + 8 := by omega
  have c1 := hid (C1.out _ _ (lent_front hi))
  clear hi hA cl hll
  -- x
  go_wp2_with fail
  refine c1.out.mono ?_
  rintro e w3 ⟨x, rfl, hA3⟩
  obtain ⟨ox, cx, rfl, hcx⟩ := ownF_form hA3
  have HA3 := hid (HA.out.join hA3)
  have c2 := hid (C1.out _ _ (lent_front (ints_of_all HA3.out.swap)))
  clear c1 hA3 HA
  -- y
  go_wp2_with fail
  refine c2.out.mono ?_
  rintro e w4 ⟨y, rfl, hA4⟩
  obtain ⟨oy, cy, rfl, hcy⟩ := ownF_form hA4
  have HA4 := hid (HA3.out.join hA4)
  have hb4 := inC_of (w := w1) HA4.out (by simp)
  have c3 := hid (C2.out _ _ (H.out.later (HB1.out.trans (hb4.mono HB1.out.size))))
  clear c2 hA4 HA3 hb4
  -- want
  go_wp2_with fail
  refine c3.out.mono ?_
  rintro e w5 ⟨z, rfl, hA5⟩
  obtain ⟨oz, cz, rfl, hcz⟩ := ownF_form hA5
  have HA5 := hid (HA4.out.join hA5)
  have c4 := hid (CF.out _ _ _ (flts_of_all HA5.out.rot3) (flts_of_all HA5.out))
  clear c3 hA5 HA4
  go_wp2_with fail
  refine c4.out.mono ?_
  rintro e w6 ⟨rfl, q6, rfl⟩
  have HA6 := hid (HA5.out.drewN q6)
  have c5 := hid (CF.out _ _ _ (flts_of_all HA6.out.swap) (flts_of_all HA6.out))
  clear c4 HA5
  generalize w5.drewN q6 = w6 at HA6 c5 ⊢
  go_wp2_with fail
  refine c5.out.mono ?_
  rintro e w7 ⟨rfl, q7, rfl⟩
  have HA7 := hid (HA6.out.drewN q7)
  clear c5 HA6
  generalize w6.drewN q7 = w7 at HA7 ⊢
  have hb7 := inC_of (w := w1) HA7.out (by simp)
  have c6 := hid (still_any (ints_of_all (HA7.out.perm (List.perm_append_comm (l₁ := [_, _, _]) (l₂ := [_, _])))) (H.out.later (HB1.out.trans (hb7.mono HB1.out.size))) hz)
  clear hb7
  go_wp2_with fail
  refine c6.out.mono ?_
  rintro e w8 ⟨rfl, q8, rfl⟩
  have HA8 := hid ((HA7.out.drewN q8).rot3)
  clear c6 HA7
  generalize w7.drewN q8 = w8 at HA8 ⊢
  go_wp2
  go_loopw [12] (fun s wr => ∃ (k : Nat) (xs : List Nat), k ≤ O.length ∧ xs.length = O.length ∧ s = .int .i64 (k : Int) ∧ All [ownC 25 (.slice ox O.length cx) (flts xs), ownC 25 (.slice oz O.length cz) (flts O), ownC 25 (.slice oy O.length cy) (flts O), ownC 3 (.slice oo (l.length + 8) oc) (ints (lentL l)), inC w1] wr) (fun s _ => O.length - (intOf s).toNat)
  case atStart => exact ⟨0, O, Nat.zero_le _, rfl, rfl, HA8.out⟩
  case round =>
    obtain ⟨k, xs, hk, hxl, rfl, hA⟩ := hrel
    have HA9 := hid hA
    clear hA HA8
    by_cases hlt : k < O.length
    · obtain ⟨z, hz1⟩ : ∃ z, (flts xs)[k]? = some z := ⟨_, List.getElem?_eq_getElem (by rw [List.length_map]; omega)⟩
      obtain ⟨zz, rfl⟩ : ∃ zz, z = .float .f64 zz := by
        rw [List.getElem?_map] at hz1
        cases hq : xs[k]? with
        | none => rw [hq] at hz1; cases hz1
        | some q => rw [hq] at hz1; exact ⟨q, (Option.some.inj hz1).symm⟩
      obtain ⟨g, rfl, hc⟩ := own_at HA9.out hz1
      have hfz : wr.frozen? ⟨g, k, none⟩ = false := by
        have h' : wr.ownsRow 0 25 1 (.slice (some ⟨g, 0, none⟩) O.length cx) (flts xs).length (flts xs) := HA9.out.1.2.1
        rcases h'.2 with ⟨e, _⟩ | ⟨g', cap, cur, e, hg0, hg, _⟩
        · cases e
        · simp only [Value.slice.injEq, Option.some.injEq, Addr.mk.injEq, and_true] at e
          obtain ⟨rfl, _, _⟩ := e
          exact free_at hg k
      have HN := hid (own_set HA9.out hlt (.float .f64 13832806255468478464))
      have HXL := hid hxl
      clear hz1 hxl
      go_wp2
      exact ⟨⟨k + 1, xs.set k 13832806255468478464, by omega, by rw [List.length_set]; exact HXL.out, rfl, by
        have := HN.out
        simpa [flts, List.map_set] using this⟩, by simp [intOf]; omega⟩
    · have hkk : k = O.length := by omega
      have HXL := hid hxl
      clear hkk hxl
      go_wp2
      go_loopw [6, 13] (fun u s wx => ∃ (j oc2 : Nat) (oo2 : Option Addr) (ys : List Nat), j ≤ 12 ∧ ys.length = O.length + j ∧ u = .slice oo2 (O.length + j) oc2 ∧ s = .int .i64 (j : Int) ∧ All [ownC 25 u (flts ys), ownC 25 (.slice oz O.length cz) (flts O), ownC 25 (.slice oy O.length cy) (flts O), ownC 3 (.slice oo (l.length + 8) oc) (ints (lentL l)), inC w1] wx) (fun _ s _ => 12 - (intOf s).toNat)
      case atStart => exact ⟨0, cx, ox, xs, by omega, by have := HXL.out; omega, rfl, rfl, HA9.out⟩
      case round =>
        obtain ⟨j, oc2, oo2, ys, hj, hyl, rfl, rfl, hA⟩ := hrel
        have HA10 := hid hA
        have HYL := hid hyl
        clear hA HA9 hyl
        by_cases hlt2 : j < 12
        · have A1 := hid (HA10.out.alloc (.cells #[.float .f64 13836183955189006336] 25))
          have hb8 : (ys.length + [13836183955189006336].length) * 8 ≤ 140737488355328 := by have := HYL.out; rw [List.length_singleton]; omega
          go_wp2_with (at_builtin; refine wpList_appF rfl rfl A1.out rfl rfl (flts_new _ _) hb8 ?_; intro v' w' hA2 hf hsz; obtain ⟨oo3, oc3, rfl⟩ := hf; have HA2 := hid hA2; clear hA2 hsz)
          have hfin := hid (show All [ownC 25 (.slice oo3 (O.length + (j + 1)) oc3) (flts (ys ++ [13836183955189006336])), ownC 25 (.slice oz O.length cz) (flts O), ownC 25 (.slice oy O.length cy) (flts O), ownC 3 (.slice oo (l.length + 8) oc) (ints (lentL l)), inC w1] w' by
            have h := HA2.out
            rw [HYL.out] at h
            exact h)
          clear HA2 A1 HA10
          have hyl2 := HYL.out
          go_wp2
          exact ⟨⟨j + 1, oc3, oo3, ys ++ [13836183955189006336], by omega, by rw [List.length_append, HYL.out]; rfl, by rw [hyl2]; rfl, rfl, by rw [hyl2]; exact hfin.out⟩, by simp [intOf]; omega⟩
        · have hjj : j = 12 := by omega
          have hb9 := inC_of (w := w1) HA10.out (by simp)
          have c7 := hid (C1.out _ _ (lent_front (ints_of_all (HA10.out.perm (List.perm_append_comm (l₁ := [_, _, _]) (l₂ := [_, _]))))))
          clear hjj hb9
          go_wp2_with fail
          refine c7.out.mono ?_
          rintro e w9 ⟨zz, rfl, hA11⟩
          obtain ⟨o9, c9, rfl, hc9⟩ := ownF_form hA11
          have HA11 := hid (HA10.out.join hA11)
          have FY := flts_of_all (HA11.out.perm (List.perm_append_comm (l₁ := [_, _, _]) (l₂ := [_, _, _])))
          have FW := flts_of_all HA11.out.rot3
          have FZ := flts_of_all HA11.out
          have c8 := hid (CF.out _ _ _ FY FW)
          clear c7 hA11 HA10
          go_wp2_with fail
          refine c8.out.mono ?_
          rintro e w10 ⟨rfl, q10, rfl⟩
          have c9 := hid (CF.out _ _ _ (FZ.later (bdN w9 q10)) (FW.later (bdN w9 q10)))
          have hbl := hid (HB1.out.trans ((inC_of (w := w1) HA11.out (by simp)).mono HB1.out.size))
          clear c8 FY FW FZ HA11
          go_wp2_with fail
          refine c9.out.mono ?_
          rintro e w11 ⟨rfl, q11, rfl⟩
          go_wp2
          go_ret
          exact ⟨rfl, hbl.out.trans (bdN' _ _ _)⟩
end Go.Proofs.Ytkaigmoeagjjgaa

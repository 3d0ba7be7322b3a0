import Derived.Test.YtaomhahmpbfjhaaNew
namespace Go.Proofs.Ytaomhahmpbfjhaa
open Go.RowKit Go.Sort
set_option linter.unusedVariables false

/-- The nodes that are looked at, from one of some height down. -/
def vis (N : Nodes) (a : Nat) : Nat → Nat → List Nat
  | 0, k => [k]
  | e + 1, k => if (N k).1 ≤ a then [k] else k :: (vis N a e (2 * k) ++ vis N a e (2 * k + 1))

/-- A node of some height. -/
def Ht (lv e k : Nat) : Prop := lv ≤ k * 2 ^ e ∧ k * 2 ^ e + 2 ^ e ≤ 2 * lv

theorem Ht.leaf {lv k : Nat} (h : Ht lv 0 k) : lv ≤ k ∧ k < 2 * lv := by
  unfold Ht at h
  simp at h
  omega
theorem Ht.inner {lv e k : Nat} (h : Ht lv (e + 1) k) : k < lv ∧ Ht lv e (2 * k) ∧ Ht lv e (2 * k + 1) := by
  unfold Ht at *
  have hp : 0 < 2 ^ e := Nat.pow_pos (by omega)
  have e1 : k * 2 ^ (e + 1) = 2 * (k * 2 ^ e) := by rw [Nat.pow_succ, ← Nat.mul_assoc]; omega
  have e2 : 2 * k * 2 ^ e = 2 * (k * 2 ^ e) := by rw [Nat.mul_assoc]
  have e3 : (2 * k + 1) * 2 ^ e = 2 * (k * 2 ^ e) + 2 ^ e := by rw [Nat.add_mul, e2]; omega
  have e4 : 2 ^ (e + 1) = 2 * 2 ^ e := by rw [Nat.pow_succ]; omega
  have e5 : k ≤ k * 2 ^ e := Nat.le_mul_of_pos_right k hp
  rw [e1, e4] at h
  rw [e2, e3]
  omega
theorem Ht.small {lv e k : Nat} (h : Ht lv e k) (hl : lv ≤ 64) : k < 128 := by
  unfold Ht at h
  have hp : 0 < 2 ^ e := Nat.pow_pos (by omega)
  have e5 : k ≤ k * 2 ^ e := Nat.le_mul_of_pos_right k hp
  omega

set_option maxHeartbeats 4000000 in
theorem look47 {g o lv a : Nat} {m : Nat} {N : Nodes} (I X : List Nat → World → Prop) (hl : lv ≤ 64)
    (hV : ∀ l w, I l w → View w g o lv N)
    (V : List Nat) (hs : ∀ (l : List Nat) (k : Nat) (rest : List Nat) (w : World), l ++ k :: rest = V → k < 2 * lv → I l w → Calls Try.prog 47 #[.int .i64 (k : Int), .pointer (some ⟨m, 0, none⟩)] w fun e w' => (e = .returned (.bool true) ∧ I (l ++ [k]) w') ∨ (e = .returned (.bool false) ∧ X (l ++ [k]) w')) :
    ∀ e k l rest w, Ht lv e k → l ++ vis N a e k ++ rest = V → I l w → Calls Try.prog 40 #[.pointer (some ⟨g, o, none⟩), .int .i64 (k : Int), .int .i64 (a : Int), .func (.func 47) #[] #[.pointer (some ⟨m, 0, none⟩)]] w fun r w' => (r = .returned (.bool true) ∧ I (l ++ vis N a e k) w') ∨ (r = .returned (.bool false) ∧ ∃ pre, pre <+: vis N a e k ∧ X (l ++ pre) w') := by
  intro e
  induction e with
  | zero =>
    intro k l rest w hh hVV hI
    have hk := hh.leaf
    have C := hid (hs l k rest w (by simpa [vis] using hVV) (by omega) hI)
    have hk2 := hid (show lv ≤ k from hk.1)
    have VW := hid hV
    clear hs hV hI hk hh hVV
    go_enter Try.func40, Try.ntmps40
    go_wp2_with fail
    go_at_call 47
    refine C.out.mono ?_
    rintro r w2 (⟨rfl, hI⟩ | ⟨rfl, hX⟩)
    · have hI := hid hI
      have L := hid (isLeaf_any (k := k) (VW.out _ _ hI.out).leaves)
      rw [show decide (lv ≤ k) = true by simpa using hk2.out] at L
      go_wp2_with (go_at_call 43; refine L.out.mono ?_; rintro e w' ⟨rfl, rfl⟩)
      go_ret
      exact Or.inl ⟨rfl, hI.out⟩
    · have hX := hid hX
      go_wp2
      go_ret
      exact Or.inr ⟨rfl, _, List.prefix_refl _, hX.out⟩
  | succ e ih =>
    intro k l rest w hh hVV hI
    have hk128 := hh.small hl
    obtain ⟨hklv, h1, h2⟩ := hh.inner
    obtain ⟨rs, hrs⟩ : ∃ rs, vis N a (e + 1) k = k :: rs := by unfold vis; split <;> exact ⟨_, rfl⟩
    have C := hid (hs l k (rs ++ rest) w (by rw [hrs] at hVV; simpa using hVV) (by omega) hI)
    clear hrs rs
    have VV := hid hVV
    have VW := hid hV
    have IH := hid ih
    have B := hid (show k < 128 ∧ k < lv from ⟨hk128, hklv⟩)
    have HT := hid (show _ ∧ _ from ⟨h1, h2⟩)
    clear hs hV hI hh h1 h2 ih hk128 hklv hl hVV
    go_enter Try.func40, Try.ntmps40
    go_wp2_with fail
    go_at_call 47
    refine C.out.mono ?_
    rintro r w2 (⟨rfl, hI⟩ | ⟨rfl, hX⟩)
    · have hv := VW.out _ _ hI
      obtain ⟨p, n1, n2, _, _⟩ := hv.node k B.out.1
      have L := hid (isLeaf_any (k := k) hv.leaves)
      rw [show decide (lv ≤ k) = false by have := B.out.2; simp; omega] at L
      have ND := hid (node_any B.out.1 n1)
      have hI := hid hI
      generalize k % 8 * 2 = r at *
      by_cases hc : (N k).1 ≤ a
      · have E : Hid (vis N a (e + 1) k = [k]) := hid (by simp only [vis, if_pos hc])
        have hc' : ((N k).1 : Int) ≤ (a : Int) := by omega
        generalize (N k).1 = x at *
        clear hv n1 hc
        go_wp2_with (first | (go_at_call 43; refine L.out.mono ?_; rintro e w' ⟨rfl, rfl⟩) | (go_at_call 42; refine ND.out.mono ?_; rintro e w' ⟨rfl, rfl⟩))
        go_ret
        exact Or.inl ⟨rfl, by rw [E.out]; exact hI.out⟩
      · have E : Hid (vis N a (e + 1) k = k :: (vis N a e (2 * k) ++ vis N a e (2 * k + 1))) := hid (by simp only [vis, if_neg hc])
        have hc' : ¬ ((N k).1 : Int) ≤ (a : Int) := by omega
        have w1 : IntKind.i64.wrap (2 * (k : Int)) = ((2 * k : Nat) : Int) := by have := B.out.1; rw [IntKind.wrap_i64]; omega
        have w2 : IntKind.i64.wrap (((2 * k : Nat) : Int) + 1) = ((2 * k + 1 : Nat) : Int) := by have := B.out.1; rw [IntKind.wrap_i64]; omega
        have K1 := hid (IH.out (2 * k) (l ++ [k]) (vis N a e (2 * k + 1) ++ rest) _ HT.out.1 (by have := VV.out; rw [E.out] at this; simpa using this) hI.out)
        have K2 := hid (fun w2 => IH.out (2 * k + 1) (l ++ [k] ++ vis N a e (2 * k)) rest w2 HT.out.2 (by have := VV.out; rw [E.out] at this; simpa using this))
        generalize (N k).1 = x at *
        generalize vis N a e (2 * k) = v1 at *
        generalize vis N a e (2 * k + 1) = v2 at *
        generalize 2 * k + 1 = k2 at *
        generalize 2 * k = k1 at *
        clear hv n1 hc IH VV
        go_wp2_with (first | (go_at_call 43; refine L.out.mono ?_; rintro e w' ⟨rfl, rfl⟩) | (go_at_call 42; refine ND.out.mono ?_; rintro e w' ⟨rfl, rfl⟩))
        go_at_call 40
        refine K1.out.mono ?_
        rintro r2 w3 (⟨rfl, hI3⟩ | ⟨rfl, pre, hpre, hX3⟩)
        · have K2 := hid (K2.out _ hI3)
          have hI3 := hid hI3
          go_wp2_with fail
          go_at_call 40
          refine K2.out.mono ?_
          rintro r4 w4 (⟨rfl, hI4⟩ | ⟨rfl, pre, hpre, hX4⟩)
          · have hI4 := hid hI4
            go_wp2
            go_ret
            exact Or.inl ⟨rfl, by rw [E.out]; simpa using hI4.out⟩
          · have hX4 := hid hX4
            have hpre := hid hpre
            go_wp2
            go_ret
            exact Or.inr ⟨rfl, k :: (v1 ++ pre), by rw [E.out]; simpa using hpre.out, by simpa using hX4.out⟩
        · have hX3 := hid hX3
          have hpre := hid hpre
          go_wp2
          go_ret
          exact Or.inr ⟨rfl, k :: pre, by rw [E.out]; simpa using hpre.out.trans (List.prefix_append _ _), by simpa using hX3.out⟩
    · have hX := hid hX
      go_wp2
      go_ret
      exact Or.inr ⟨rfl, [k], by unfold vis; split <;> simp, hX.out⟩

set_option maxHeartbeats 4000000 in
theorem look41 {g o lv a : Nat} {m1 m2 m3 : Nat} {N : Nodes} (I X : List Nat → World → Prop) (hl : lv ≤ 64)
    (hV : ∀ l w, I l w → View w g o lv N)
    (V : List Nat) (hs : ∀ (l : List Nat) (k : Nat) (rest : List Nat) (w : World), l ++ k :: rest = V → k < 2 * lv → I l w → Calls Try.prog 41 #[.int .i64 (k : Int), .pointer (some ⟨m1, 0, none⟩), .pointer (some ⟨m2, 0, none⟩), .pointer (some ⟨m3, 0, none⟩)] w fun e w' => (e = .returned (.bool true) ∧ I (l ++ [k]) w') ∨ (e = .returned (.bool false) ∧ X (l ++ [k]) w')) :
    ∀ e k l rest w, Ht lv e k → l ++ vis N a e k ++ rest = V → I l w → Calls Try.prog 40 #[.pointer (some ⟨g, o, none⟩), .int .i64 (k : Int), .int .i64 (a : Int), .func (.func 41) #[] #[.pointer (some ⟨m1, 0, none⟩), .pointer (some ⟨m2, 0, none⟩), .pointer (some ⟨m3, 0, none⟩)]] w fun r w' => (r = .returned (.bool true) ∧ I (l ++ vis N a e k) w') ∨ (r = .returned (.bool false) ∧ ∃ pre, pre <+: vis N a e k ∧ X (l ++ pre) w') := by
  intro e
  induction e with
  | zero =>
    intro k l rest w hh hVV hI
    have hk := hh.leaf
    have C := hid (hs l k rest w (by simpa [vis] using hVV) (by omega) hI)
    have hk2 := hid (show lv ≤ k from hk.1)
    have VW := hid hV
    clear hs hV hI hk hh hVV
    go_enter Try.func40, Try.ntmps40
    go_wp2_with fail
    go_at_call 41
    refine C.out.mono ?_
    rintro r w2 (⟨rfl, hI⟩ | ⟨rfl, hX⟩)
    · have hI := hid hI
      have L := hid (isLeaf_any (k := k) (VW.out _ _ hI.out).leaves)
      rw [show decide (lv ≤ k) = true by simpa using hk2.out] at L
      go_wp2_with (go_at_call 43; refine L.out.mono ?_; rintro e w' ⟨rfl, rfl⟩)
      go_ret
      exact Or.inl ⟨rfl, hI.out⟩
    · have hX := hid hX
      go_wp2
      go_ret
      exact Or.inr ⟨rfl, _, List.prefix_refl _, hX.out⟩
  | succ e ih =>
    intro k l rest w hh hVV hI
    have hk128 := hh.small hl
    obtain ⟨hklv, h1, h2⟩ := hh.inner
    obtain ⟨rs, hrs⟩ : ∃ rs, vis N a (e + 1) k = k :: rs := by unfold vis; split <;> exact ⟨_, rfl⟩
    have C := hid (hs l k (rs ++ rest) w (by rw [hrs] at hVV; simpa using hVV) (by omega) hI)
    clear hrs rs
    have VV := hid hVV
    have VW := hid hV
    have IH := hid ih
    have B := hid (show k < 128 ∧ k < lv from ⟨hk128, hklv⟩)
    have HT := hid (show _ ∧ _ from ⟨h1, h2⟩)
    clear hs hV hI hh h1 h2 ih hk128 hklv hl hVV
    go_enter Try.func40, Try.ntmps40
    go_wp2_with fail
    go_at_call 41
    refine C.out.mono ?_
    rintro r w2 (⟨rfl, hI⟩ | ⟨rfl, hX⟩)
    · have hv := VW.out _ _ hI
      obtain ⟨p, n1, n2, _, _⟩ := hv.node k B.out.1
      have L := hid (isLeaf_any (k := k) hv.leaves)
      rw [show decide (lv ≤ k) = false by have := B.out.2; simp; omega] at L
      have ND := hid (node_any B.out.1 n1)
      have hI := hid hI
      generalize k % 8 * 2 = r at *
      by_cases hc : (N k).1 ≤ a
      · have E : Hid (vis N a (e + 1) k = [k]) := hid (by simp only [vis, if_pos hc])
        have hc' : ((N k).1 : Int) ≤ (a : Int) := by omega
        generalize (N k).1 = x at *
        clear hv n1 hc
        go_wp2_with (first | (go_at_call 43; refine L.out.mono ?_; rintro e w' ⟨rfl, rfl⟩) | (go_at_call 42; refine ND.out.mono ?_; rintro e w' ⟨rfl, rfl⟩))
        go_ret
        exact Or.inl ⟨rfl, by rw [E.out]; exact hI.out⟩
      · have E : Hid (vis N a (e + 1) k = k :: (vis N a e (2 * k) ++ vis N a e (2 * k + 1))) := hid (by simp only [vis, if_neg hc])
        have hc' : ¬ ((N k).1 : Int) ≤ (a : Int) := by omega
        have w1 : IntKind.i64.wrap (2 * (k : Int)) = ((2 * k : Nat) : Int) := by have := B.out.1; rw [IntKind.wrap_i64]; omega
        have w2 : IntKind.i64.wrap (((2 * k : Nat) : Int) + 1) = ((2 * k + 1 : Nat) : Int) := by have := B.out.1; rw [IntKind.wrap_i64]; omega
        have K1 := hid (IH.out (2 * k) (l ++ [k]) (vis N a e (2 * k + 1) ++ rest) _ HT.out.1 (by have := VV.out; rw [E.out] at this; simpa using this) hI.out)
        have K2 := hid (fun w2 => IH.out (2 * k + 1) (l ++ [k] ++ vis N a e (2 * k)) rest w2 HT.out.2 (by have := VV.out; rw [E.out] at this; simpa using this))
        generalize (N k).1 = x at *
        generalize vis N a e (2 * k) = v1 at *
        generalize vis N a e (2 * k + 1) = v2 at *
        generalize 2 * k + 1 = k2 at *
        generalize 2 * k = k1 at *
        clear hv n1 hc IH VV
        go_wp2_with (first | (go_at_call 43; refine L.out.mono ?_; rintro e w' ⟨rfl, rfl⟩) | (go_at_call 42; refine ND.out.mono ?_; rintro e w' ⟨rfl, rfl⟩))
        go_at_call 40
        refine K1.out.mono ?_
        rintro r2 w3 (⟨rfl, hI3⟩ | ⟨rfl, pre, hpre, hX3⟩)
        · have K2 := hid (K2.out _ hI3)
          have hI3 := hid hI3
          go_wp2_with fail
          go_at_call 40
          refine K2.out.mono ?_
          rintro r4 w4 (⟨rfl, hI4⟩ | ⟨rfl, pre, hpre, hX4⟩)
          · have hI4 := hid hI4
            go_wp2
            go_ret
            exact Or.inl ⟨rfl, by rw [E.out]; simpa using hI4.out⟩
          · have hX4 := hid hX4
            have hpre := hid hpre
            go_wp2
            go_ret
            exact Or.inr ⟨rfl, k :: (v1 ++ pre), by rw [E.out]; simpa using hpre.out, by simpa using hX4.out⟩
        · have hX3 := hid hX3
          have hpre := hid hpre
          go_wp2
          go_ret
          exact Or.inr ⟨rfl, k :: pre, by rw [E.out]; simpa using hpre.out.trans (List.prefix_append _ _), by simpa using hX3.out⟩
    · have hX := hid hX
      go_wp2
      go_ret
      exact Or.inr ⟨rfl, [k], by unfold vis; split <;> simp, hX.out⟩

end Go.Proofs.Ytaomhahmpbfjhaa

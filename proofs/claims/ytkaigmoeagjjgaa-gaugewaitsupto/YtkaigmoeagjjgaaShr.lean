import Derived.Test.YtkaigmoeagjjgaaSq
import Derived.Test.YtkaigmoeagjjgaaMm
namespace Go.Proofs.Ytkaigmoeagjjgaa
open Go.RowKit
set_option linter.unusedVariables false

/-! parts -/
theorem is_of_read {x : Nat} (hx : x < 18446744073709551616) {s : Bool} {m : Nat} {p : Int} (h : Ieee.double.read x = .number s m p) : Flt.Fn x := by
  have hS : Flt.SW = 9223372036854775808 := rfl
  have hr : x % Flt.SW < Flt.INF := by
    unfold Ieee.Format.read at h
    simp only [Flt.SW_eq, Flt.B_eq, Flt.INF_eq] at h
    have hBI : Flt.B ≤ Flt.INF := by decide
    split at h
    · rename_i c; exact Nat.lt_of_lt_of_le c hBI
    · split at h
      · rename_i c; exact c
      · split at h <;> cases h
  refine ⟨_, decide (Flt.SW ≤ x), x % Flt.SW, hr, ?_, rfl⟩
  unfold Ieee.Format.word
  rw [Flt.SW_eq]
  by_cases c : Flt.SW ≤ x
  · simp only [c, decide_true, if_true]
    rw [hS] at c ⊢
    omega
  · simp only [c, decide_false, Bool.false_eq_true, if_false]
    rw [hS] at c ⊢
    omega
theorem fx_zero : Flt.fx 0 = 0 := by decide +kernel
theorem fx_one : Flt.fx 1 = 4607182418800017408 := by decide +kernel
theorem is_zero : Flt.Is 0 0 := by
  have := Flt.fx_Is' (x := 0) (by decide)
  rwa [fx_zero, Int.zero_mul] at this
theorem is_one : Flt.Is 4607182418800017408 Flt.one := by
  have := Flt.fx_Is' (x := 1) (by decide)
  rwa [fx_one, Int.one_mul] at this
theorem one_pos : 0 < Flt.one := by unfold Flt.one; exact_mod_cast Nat.two_pow_pos Flt.eo
/-- a part is a number above 0, at most 1 -/
theorem isP_is {x : Nat} (hx : x < 18446744073709551616) (h : isP x = true) : ∃ a, Flt.Is x a ∧ 0 < a ∧ a ≤ Flt.one := by
  unfold isP at h
  rw [Bool.and_eq_true, Bool.or_eq_true] at h
  obtain ⟨h1, h2⟩ := h
  have hf : Flt.Fn x := by
    obtain ⟨s0, m0, p0, e0⟩ := Flt.Fn.read ⟨_, is_one⟩
    obtain ⟨s1, m1, p1, e1⟩ := Flt.Fn.read ⟨_, is_zero⟩
    unfold Ieee.Format.order at h1 h2
    rw [e1] at h1
    rw [e0] at h2
    cases hd : Ieee.double.read x with
    | number s m p => exact is_of_read hx hd
    | nan s t => rw [hd] at h1; simp [Ieee.Datum.order] at h1
    | infinity s =>
      rw [hd] at h1 h2
      cases s <;> simp [Ieee.Datum.order] at h1 h2
  obtain ⟨a, ha⟩ := hf
  rw [Flt.order_Is ha is_zero] at h1
  rw [Flt.order_Is ha is_one] at h2
  refine ⟨a, ha, ?_, ?_⟩
  · have : compare a 0 = .gt := by simpa using h1
    exact Int.compare_eq_gt.1 this
  · rcases h2 with h2 | h2
    · have : compare a Flt.one = .lt := by simpa using h2
      exact Int.le_of_lt (Int.compare_eq_lt.1 this)
    · have : compare a Flt.one = .eq := by simpa using h2
      exact Int.le_of_eq (Int.compare_eq_eq.1 this)
def wantF (part n : Nat) : Nat := fmul part (Flt.fx n)
theorem le4096 : (4096 : Nat) ≤ 2 * Flt.B := by decide
theorem nat_is {n : Nat} (h : n ≤ 4096) : Flt.Is (Flt.fx n) ((n : Int) * Flt.one) := Flt.fx_Is' (by have := le4096; omega)
theorem want_is {part n : Nat} {a : Int} (ha : Flt.Is part a) (h0 : 0 < a) (h1 : a ≤ Flt.one) (hn : n ≤ 4096) : Ieee.double.mul part (Flt.fx n) = some (wantF part n) ∧ Flt.Is (wantF part n) (Flt.pr a ((n : Int) * Flt.one)) := by
  obtain ⟨w, e, h⟩ := Flt.mul_Is ha (nat_is hn) h0 h1
  have : wantF part n = w := by unfold wantF fmul; rw [e]; rfl
  rw [this]; exact ⟨e, h⟩
/-- the last one passes -/
theorem last_ok {part n : Nat} {a : Int} (ha : Flt.Is part a) (h0 : 0 < a) (h1 : a ≤ Flt.one) (hn : n ≤ 4096) : Ieee.double.order (Flt.fx n) (wantF part n) ≠ some .lt := by
  rw [Flt.order_Is (nat_is hn) (want_is ha h0 h1 hn).2]
  intro h
  have := Int.compare_eq_lt.1 (Option.some.inj h)
  have := (Flt.pr_between ha (nat_is hn) h0 h1).1 (Int.mul_nonneg (Int.natCast_nonneg _) (Int.le_of_lt one_pos))
  omega

/-- what Share answers -/
def ShP (l : List Int) (part : Nat) (r : Int) : Prop := ∃ k : Nat, 1 ≤ k ∧ k ≤ l.length ∧ (∀ j : Nat, 1 ≤ j → j < k → Ieee.double.order (Flt.fx j) (wantF part l.length) = some .lt) ∧ Ieee.double.order (Flt.fx k) (wantF part l.length) ≠ some .lt ∧ (srt l)[k - 1]? = some r

theorem collect_any {w : World} {Bs : Nat} {ao : Option Addr} {cap : Nat} {zs : List Int} (hz : zs.length ≤ 1048576) (hBs : Bs < w.heap.size) (hc : w.cell? ⟨Bs, 0, none⟩ = some (.slice ao zs.length cap)) (hI : IntsIn w.heap.size w (.slice ao zs.length cap) zs) :
    Calls Try.prog 45 #[.func (.func 47) #[] #[.pointer (some ⟨Bs, 0, none⟩)]] w fun e w' => ∃ v, e = .returned v ∧ All [ownC 3 v (ints zs), inC w] w' := by
  have ck := hid (appendSeq_any hz hBs hc hI)
  clear hc hI
  go_enter Try.func45, Try.ntmps45
  go_wp2_with fail
  refine ck.out.mono ?_
  rintro e w1 ⟨v, rfl, hA⟩
  have HA := hid hA
  clear hA
  go_wp2
  go_ret
  exact ⟨v, rfl, HA.out⟩
theorem sorted_any {w : World} {Bs : Nat} {ao : Option Addr} {cap : Nat} {zs : List Int} (hz : zs.length ≤ 1048576) (hBs : Bs < w.heap.size) (hc : w.cell? ⟨Bs, 0, none⟩ = some (.slice ao zs.length cap)) (hI : IntsIn w.heap.size w (.slice ao zs.length cap) zs) :
    Calls Try.prog 34 #[.func (.func 47) #[] #[.pointer (some ⟨Bs, 0, none⟩)]] w fun e w' => ∃ v, e = .returned v ∧ All [ownC 3 v (ints (srt zs)), inC w] w' := by
  have ck := hid (collect_any hz hBs hc hI)
  clear hc hI
  go_enter Try.func34, Try.ntmps34
  go_wp2_with fail
  refine ck.out.mono ?_
  rintro e w1 ⟨v, rfl, hA⟩
  have HA := hid hA
  clear hA
  go_wp2_with fail
  refine (sort_own HA.out hz).mono ?_
  rintro e w2 ⟨rfl, hA⟩
  have HA2 := hid hA
  clear hA HA
  go_wp2
  go_ret
  exact ⟨v, rfl, HA2.out⟩

set_option maxHeartbeats 1000000 in
theorem Share_bad {w : World} {v : Value} {l : List Int} {x : Nat} (h : IntsAt w v l) (hb : 4096 < l.length ∨ l.length = 0) : Calls Try.prog 15 #[v, .float .f64 x] w fun e w' => e = .returned (.tuple #[.int .i64 0, .int .i64 (ofE l.length)]) ∧ w' = w := by
  obtain ⟨ao, c, rfl⟩ := h.form
  obtain ⟨R, hR⟩ : ∃ R, Hid (R = ofE l.length) := ⟨_, rfl⟩
  have hne : (R != 0) = true := by
    rw [hR.out]; unfold ofE
    rcases hb with hb | hb
    · rw [if_pos hb]; rfl
    · rw [hb]; rfl
  have ck := check_any (w := w) (ao := ao) (n := l.length) (c := c)
  change Calls _ _ _ _ (fun e w' => e = .returned (.int .i64 (ofE l.length)) ∧ _) at ck
  rw [← hR.out] at ck ⊢
  clear hb h hR
  go_enter Try.func15, Try.ntmps15
  go_wp2_with fail
  refine ck.mono ?_
  rintro e w1 ⟨rfl, rfl⟩
  go_wp2
  go_ret2
  exact ⟨rfl, rfl⟩

set_option maxHeartbeats 1000000 in
theorem Share_part {w : World} {v : Value} {l : List Int} {x : Nat} (h : IntsAt w v l) (h0 : 0 < l.length) (hn : l.length ≤ 4096) (hp : isP x = false) : Calls Try.prog 15 #[v, .float .f64 x] w fun e w' => e = .returned (.tuple #[.int .i64 0, .int .i64 221]) ∧ w' = w := by
  obtain ⟨ao, c, rfl⟩ := h.form
  have ck := check_any (w := w) (ao := ao) (n := l.length) (c := c)
  rw [if_neg (by omega), if_neg (by omega)] at ck
  have cp := isPart_any (w := w) (x := x)
  rw [hp] at cp
  clear h hp
  go_enter Try.func15, Try.ntmps15
  go_wp2_with fail
  refine ck.mono ?_
  rintro e w1 ⟨rfl, rfl⟩
  go_wp2_with fail
  refine cp.mono ?_
  rintro e w1 ⟨rfl, rfl⟩
  go_wp2
  go_ret2
  exact ⟨rfl, rfl⟩

set_option maxHeartbeats 2000000 in
theorem Share_ok {w : World} {v : Value} {l : List Int} {x : Nat} (h : IntsAt w v l) (h0 : 0 < l.length) (hn : l.length ≤ 4096) (hx : x < 18446744073709551616) (hp : isP x = true) : Calls Try.prog 15 #[v, .float .f64 x] w fun e w' => ∃ r, e = .returned (.tuple #[.int .i64 r, .int .i64 0]) ∧ ShP l x r ∧ Below w.heap.size w w' := by
  obtain ⟨ao, c, rfl⟩ := h.form
  have ck := check_any (w := w) (ao := ao) (n := l.length) (c := c)
  rw [if_neg (by omega), if_neg (by omega)] at ck
  have cp := isPart_any (w := w) (x := x)
  rw [hp] at cp
  obtain ⟨a, ha, ha0, ha1⟩ := isP_is hx hp
  have hw := hid (want_is ha ha0 ha1 hn).1
  have hl := hid (last_ok ha ha0 ha1 hn)
  obtain ⟨W, hW⟩ : ∃ W, Hid (W = wantF x l.length) := ⟨_, rfl⟩
  rw [← hW.out] at hw hl
  have hb1 : Below w.heap.size w (w.alloc (.cells #[.slice ao l.length c] 22)) := (Below.refl _ w).alloc (Nat.le_refl _) _
  have cs := hid (sorted_any (w := w.alloc (.cells #[.slice ao l.length c] 22)) (Bs := w.heap.size) (ao := ao) (cap := c) (zs := l) (by omega) (by simp) (by rw [cell_at (heap_alloc_new w _)]; rfl) (by
    obtain ⟨ao', c', e, hc, h1 | ⟨b, off, e2, hb, h1⟩⟩ := h.later hb1
    · exact ⟨ao', c', e, hc, .inl h1.1⟩
    · exact ⟨ao', c', e, hc, .inr ⟨b, off, e2, hb, h1⟩⟩))
  have hB := hid hb1
  clear h hp ha ha0 ha1 hb1 hx
  go_enter Try.func15, Try.ntmps15
  go_wp2_with fail
  refine ck.mono ?_
  rintro e w1 ⟨rfl, rfl⟩
  go_wp2_with fail
  refine cp.mono ?_
  rintro e w1 ⟨rfl, rfl⟩
  go_wp2_with fail
  refine values_any.mono ?_
  rintro e w1 ⟨rfl, rfl⟩
  go_wp2_with fail
  refine cs.out.mono ?_
  rintro e w2 ⟨v, rfl, hA⟩
  have hb2 := hid (hB.out.trans ((inC_of hA (by simp)).mono (by simp)))
  have hrow : w2.ownsRow 0 3 1 v (srt l).length (ints (srt l)) := by
    have h' : w2.ownsRow 0 3 1 v (ints (srt l)).length (ints (srt l)) := hA.1.2.1
    rwa [List.length_map] at h'
  obtain ⟨oo, oc, rfl⟩ := owns_form hrow
  have hcell : ∀ j z, (srt l)[j]? = some z → ∃ g, oo = some ⟨g, 0, none⟩ ∧ w2.cell? ⟨g, j, none⟩ = some (.int .i64 z) := by
    intro j z hz
    rcases hrow.2 with ⟨e, e2⟩ | ⟨g, cap, cur, e, hg0, hg, hn', hm, hcs, ht⟩
    · have := (List.getElem?_eq_some_iff.1 hz).1
      omega
    · simp only [Value.slice.injEq] at e
      obtain ⟨rfl, _, rfl⟩ := e
      refine ⟨g, rfl, ?_⟩
      rw [cell_at hg]
      have h2 : (ints (srt l))[j]? = some (.int .i64 z) := by simp [hz]
      rw [← ht, List.getElem?_take] at h2
      split at h2
      · simpa using h2
      · cases h2
  have hoc : (srt l).length ≤ oc := by
    rcases hrow.2 with ⟨e, e2⟩ | ⟨g, cap, cur, e, hg0, hg, hn', hm, hcs, ht⟩
    · simp only [Value.slice.injEq] at e; omega
    · simp only [Value.slice.injEq] at e; omega
  have HC := hid hcell
  have hsl := srt_len l
  have r1 : ∀ wr, (binOp .mul 25 (.float .f64 x) (.float .f64 (floatOfInt .f64 (l.length : Int)))).run Try.prog wr = .ok (.float .f64 W) wr := fun wr => run_fmul wr 25 hw.out
  rw [hsl] at hoc
  have HSL := hid hsl
  clear hA hrow hcell hw hB cs hsl
  rw [HSL.out]
  go_wp2
  go_loopw [9] (fun i wr => ∃ k : Nat, 1 ≤ k ∧ k ≤ l.length ∧ (∀ j : Nat, 1 ≤ j → j < k → Ieee.double.order (Flt.fx j) W = some .lt) ∧ i = .int .i64 k ∧ wr = w2) (fun i _ => l.length - (intOf i).toNat)
  case atStart => exact ⟨1, Nat.le_refl _, by omega, fun j h1 h2 => by omega, rfl, rfl⟩
  case round =>
    obtain ⟨k, h1, hk, hall, rfl, rfl⟩ := hrel
    have HALL := hid hall
    clear hall
    by_cases hc : FloatKind.f64.format.order (floatOfInt .f64 (k : Int)) W = some .lt
    · have hkl : k < l.length := by
        rcases Nat.lt_or_eq_of_le hk with h | h
        · exact h
        · subst h; exact absurd hc hl.out
      have HCC := hid hc
      have hcb : (FloatKind.f64.format.order (floatOfInt .f64 (k : Int)) W == some .lt) = true := by rw [hc]; rfl
      go_wp2
      go_roundw
      case rel => exact ⟨k + 1, by omega, by omega, fun j g1 g2 => by
                    by_cases e : j = k
                    · subst e; exact HCC.out
                    · exact HALL.out j g1 (by omega), rfl, trivial⟩
      case measure => simp [intOf]; omega
    · obtain ⟨r, hr⟩ : ∃ r, (srt l)[k - 1]? = some r := ⟨_, List.getElem?_eq_getElem (by rw [HSL.out]; omega)⟩
      obtain ⟨g, rfl, hcl⟩ := HC.out _ _ hr
      have HR := hid hr
      have HN := hid hc
      have hk1 : ((k - 1 : Nat) : Int) = (k : Int) - 1 := by omega
      have hkn : ((k : Int) - 1).toNat = k - 1 := by omega
      clear hr
      have hcb : (FloatKind.f64.format.order (floatOfInt .f64 (k : Int)) W == some .lt) = false := by simpa using hc
      clear hc
      go_wp2
      go_ret2
      exact ⟨r, rfl, ⟨k, h1, hk, by rw [← hW.out]; exact HALL.out, by rw [← hW.out]; exact HN.out, HR.out⟩, hb2.out⟩
end Go.Proofs.Ytkaigmoeagjjgaa

import Derived.Test.YtkaigmoeagjjgaaRfS
import Derived.Test.YtkaigmoeagjjgaaLen
import Derived.Test.YtkaigmoeagjjgaaShw
namespace Go.Proofs.Ytkaigmoeagjjgaa
open Go.RowKit
set_option linter.unusedVariables false

def St (l : List Int) (p k : Nat) (fnd : Bool) (best : Int) : Prop :=
  (fnd = false ∧ ∀ x ∈ l.take k, ¬ Good l p x) ∨ (fnd = true ∧ best ∈ l.take k ∧ Good l p best ∧ ∀ x ∈ l.take k, Good l p x → best ≤ x)
theorem St.skip {l : List Int} {p k : Nat} {best x : Int} (h : St l p k true best) (hx : l[k]? = some x) (hb : best ≤ x) : St l p (k + 1) true best := by
  rcases h with ⟨h, _⟩ | ⟨_, h1, h2, h3⟩
  · cases h
  · refine .inr ⟨rfl, ?_, h2, fun y hy hg => ?_⟩
    · rw [take_snoc hx]; exact List.mem_append_left _ h1
    · rw [take_snoc hx] at hy
      rcases List.mem_append.1 hy with hy | hy
      · exact h3 y hy hg
      · rw [List.mem_singleton] at hy; subst hy; exact hb
theorem St.bad {l : List Int} {p k : Nat} {fnd : Bool} {best x : Int} (h : St l p k fnd best) (hx : l[k]? = some x) (hb : ¬ Good l p x) : St l p (k + 1) fnd best := by
  rcases h with ⟨h0, h1⟩ | ⟨h0, h1, h2, h3⟩
  · refine .inl ⟨h0, fun y hy => ?_⟩
    rw [take_snoc hx] at hy
    rcases List.mem_append.1 hy with hy | hy
    · exact h1 y hy
    · rw [List.mem_singleton] at hy; subst hy; exact hb
  · refine .inr ⟨h0, ?_, h2, fun y hy hg => ?_⟩
    · rw [take_snoc hx]; exact List.mem_append_left _ h1
    · rw [take_snoc hx] at hy
      rcases List.mem_append.1 hy with hy | hy
      · exact h3 y hy hg
      · rw [List.mem_singleton] at hy; subst hy; exact absurd hg hb
theorem St.good {l : List Int} {p k : Nat} {fnd : Bool} {best x : Int} (h : St l p k fnd best) (hx : l[k]? = some x) (hb : fnd = true → x < best) (hg : Good l p x) : St l p (k + 1) true x := by
  refine .inr ⟨rfl, ?_, hg, fun y hy hg2 => ?_⟩
  · rw [take_snoc hx]; simp
  · rw [take_snoc hx] at hy
    rcases List.mem_append.1 hy with hy | hy
    · rcases h with ⟨h0, h1⟩ | ⟨h0, h1, h2, h3⟩
      · exact absurd hg2 (h1 y hy)
      · have := h3 y hy hg2
        have := hb h0
        omega
    · rw [List.mem_singleton] at hy; subst hy; exact Int.le_refl _
theorem good_bool {l : List Int} {p : Nat} {a : Int} (hn : l.length ≤ 4096) (ha : Flt.Is p a) (ha0 : 0 < a) (ha1 : a ≤ Flt.one) (x : Int) :
    ((FloatKind.f64.format.order (floatOfInt .f64 ((na l x : Nat) : Int)) (wantF p l.length) == some .gt || FloatKind.f64.format.order (floatOfInt .f64 ((na l x : Nat) : Int)) (wantF p l.length) == some .eq) = true) ↔ Good l p x := by
  have hw := (want_is ha ha0 ha1 hn).2
  have hi := nat_is (n := na l x) (Nat.le_trans (na_le l x) hn)
  unfold Good
  show ((Ieee.double.order (Flt.fx (na l x : Nat)) (wantF p l.length) == some .gt || Ieee.double.order (Flt.fx (na l x : Nat)) (wantF p l.length) == some .eq) = true) ↔ _
  rw [Flt.order_Is hi hw]
  cases compare ((na l x : Int) * Flt.one) (Flt.pr a ((l.length : Int) * Flt.one)) <;> decide

set_option maxHeartbeats 4000000 in
theorem rShare_ok {w : World} {v : Value} {l : List Int} {p : Nat} (h : IntsAt w v l) (h0 : 0 < l.length) (hn : l.length ≤ 4096) (hx : p < 18446744073709551616) (hp : isP p = true) : Calls Try.prog 16 #[v, .float .f64 p] w fun e w' => ∃ r, e = .returned (.tuple #[.int .i64 r, .int .i64 0]) ∧ ShP l p r ∧ w' = w := by
  obtain ⟨ao, c, rfl⟩ := h.form
  obtain ⟨hc, _⟩ := h.cap
  have cp := rShare_part (w := w) (x := p)
  rw [hp] at cp
  obtain ⟨a, ha, ha0, ha1⟩ := isP_is hx hp
  have hw := (want_is ha ha0 ha1 hn).1
  have HEX := hid (ShP_ex h0 hn ha ha0 ha1)
  have HBI := hid (fun (b r : Int) => best_is (b := b) (r := r) hn ha ha0 ha1)
  have HMG := hid (max_good h0 hn ha ha0 ha1)
  have HGB := hid (good_bool hn ha ha0 ha1)
  obtain ⟨W, hW⟩ : ∃ W, Hid (W = wantF p l.length) := ⟨_, rfl⟩
  rw [← hW.out] at hw HGB
  have r1 : ∀ wr, (binOp .mul 25 (.float .f64 p) (.float .f64 (floatOfInt .f64 (l.length : Int)))).run Try.prog wr = .ok (.float .f64 W) wr := fun wr => run_fmul wr 25 hw
  have H := hid h
  clear h hp ha ha0 ha1 hx hw
  go_enter Try.func16, Try.ntmps16
  go_wp2_with fail
  refine cp.mono ?_
  rintro e w1 ⟨rfl, rfl⟩
  go_wp2
  go_loopw [7, 8, 9] (fun b f i wr => ∃ (k : Nat) (fnd : Bool) (best : Int), k ≤ l.length ∧ b = .int .i64 best ∧ f = .bool fnd ∧ i = .int .i64 (k : Int) ∧ St l p k fnd best ∧ wr = w1) (fun _ _ i _ => l.length - (intOf i).toNat)
  case atStart => exact ⟨0, false, 0, Nat.zero_le _, rfl, rfl, rfl, .inl ⟨rfl, by simp⟩, rfl⟩
  case round =>
    obtain ⟨k, fnd, best, hk, rfl, rfl, rfl, hS, rfl⟩ := hrel
    have HS := hid hS
    clear hS
    by_cases hlt : k < l.length
    · obtain ⟨x, hx⟩ : ∃ x, l[k]? = some x := ⟨_, List.getElem?_eq_getElem hlt⟩
      obtain ⟨b, off, rfl, hb, hcx⟩ := H.out.at hx
      have HX := hid hx
      have cN := hid (notAbove_any (x := x) H.out hn)
      clear hx
      by_cases hsk : fnd = true ∧ best ≤ x
      · obtain ⟨rfl, hbx⟩ := hsk
        have e1 : decide (best ≤ x) = true := decide_eq_true hbx
        have hSt := hid (HS.out.skip HX.out hbx)
        clear hbx cN
        go_wp2
        go_roundw
        case rel => exact ⟨k + 1, true, best, by omega, rfl, rfl, rfl, hSt.out, trivial⟩
        case measure => simp [intOf]; omega
      · have hlb : fnd = true → x < best := fun e => by
          rcases Int.lt_or_le x best with h | h
          · exact h
          · exact absurd ⟨e, h⟩ hsk
        have e0 : (fnd && decide (best ≤ x)) = false := by
          cases fnd
          · rfl
          · have := hlb rfl
            simp; omega
        have HLB := hid hlb
        clear hsk hlb
        have hg := HGB.out x
        by_cases d : Good l p x
        · have hgt := hg.2 d
          have hSt := hid (HS.out.good HX.out HLB.out d)
          have HG := hid hgt
          clear d hg hgt
          cases fnd with
          | false =>
            go_wp2_with fail
            refine cN.out.mono ?_
            rintro e w3 ⟨rfl, rfl⟩
            have hgt := HG.out
            generalize na l x = N at hgt ⊢
            go_wp2
            exact ⟨⟨k + 1, true, x, by omega, rfl, rfl, rfl, hSt.out, trivial⟩, by simp [intOf]; omega⟩
          | true =>
            have e1 : decide (best ≤ x) = false := by simpa using e0
            go_wp2_with fail
            refine cN.out.mono ?_
            rintro e w3 ⟨rfl, rfl⟩
            have hgt := HG.out
            generalize na l x = N at hgt ⊢
            go_wp2
            exact ⟨⟨k + 1, true, x, by omega, rfl, rfl, rfl, hSt.out, trivial⟩, by simp [intOf]; omega⟩
        · have hgt : (FloatKind.f64.format.order (floatOfInt .f64 ((na l x : Nat) : Int)) W == some .gt || FloatKind.f64.format.order (floatOfInt .f64 ((na l x : Nat) : Int)) W == some .eq) = false := by
            rw [Bool.eq_false_iff]
            exact fun h => d (hg.1 h)
          have hSt := hid (HS.out.bad HX.out d)
          have HG := hid hgt
          clear d hg hgt
          cases fnd with
          | false =>
            go_wp2_with fail
            refine cN.out.mono ?_
            rintro e w3 ⟨rfl, rfl⟩
            have hgt := HG.out
            generalize na l x = N at hgt ⊢
            go_wp2
            exact ⟨⟨k + 1, false, best, by omega, rfl, rfl, rfl, hSt.out, trivial⟩, by simp [intOf]; omega⟩
          | true =>
            have e1 : decide (best ≤ x) = false := by simpa using e0
            go_wp2_with fail
            refine cN.out.mono ?_
            rintro e w3 ⟨rfl, rfl⟩
            have hgt := HG.out
            generalize na l x = N at hgt ⊢
            go_wp2
            exact ⟨⟨k + 1, true, best, by omega, rfl, rfl, rfl, hSt.out, trivial⟩, by simp [intOf]; omega⟩
    · obtain rfl : k = l.length := by omega
      have hfin : ShP l p best := by
        obtain ⟨r, hr⟩ := HEX.out
        rcases HS.out with ⟨_, h1⟩ | ⟨_, h1, h2, h3⟩
        · rw [List.take_length] at h1
          exact absurd HMG.out.2 (h1 _ HMG.out.1)
        · rw [List.take_length] at h1 h3
          have := HBI.out best r hr h1 h2 h3
          rw [this]; exact hr
      have HFIN := hid hfin
      clear hfin hlt hk
      go_wp2
      go_ret2
      exact ⟨best, rfl, HFIN.out, rfl⟩

theorem rShare_tot {w : World} {v : Value} {l : List Int} {p : Nat} (h : IntsAt w v l) (hp : p < 18446744073709551616) : Calls Try.prog 16 #[v, .float .f64 p] w fun e w' => ∃ r, e = .returned (.tuple #[.int .i64 r, .int .i64 (shE l p)]) ∧ ShR l p r ∧ w' = w := by
  by_cases h1 : 4096 < l.length
  · obtain ⟨ao, c, rfl⟩ := h.form
    have hE : shE l p = 220 := by unfold shE; rw [if_pos h1]
    have hr : ShR l p 0 := .inr ⟨by rw [hE]; decide, rfl⟩
    rw [hE]
    clear h hE
    go_enter Try.func16, Try.ntmps16
    go_wp2
    go_ret2
    exact ⟨0, rfl, hr, rfl⟩
  · by_cases h2 : l.length = 0
    · obtain ⟨ao, c, rfl⟩ := h.form
      have hE : shE l p = 222 := by unfold shE; rw [if_neg h1, if_pos h2]
      have hr : ShR l p 0 := .inr ⟨by rw [hE]; decide, rfl⟩
      rw [hE, h2]
      clear h hE h1 h2
      go_enter Try.func16, Try.ntmps16
      go_wp2
      go_ret2
      exact ⟨0, rfl, hr, rfl⟩
    · cases hq : isP p with
      | false =>
        obtain ⟨ao, c, rfl⟩ := h.form
        have hE : shE l p = 221 := by unfold shE; rw [if_neg h1, if_neg h2, hq]; rfl
        have hr : ShR l p 0 := .inr ⟨by rw [hE]; decide, rfl⟩
        rw [hE]
        have cp := rShare_part (w := w) (x := p)
        rw [hq] at cp
        have d2 : ((l.length : Int) == 0) = false := by rw [beq_eq_false_iff_ne]; omega
        clear h hE hq h2
        go_enter Try.func16, Try.ntmps16
        go_wp2_with fail
        refine cp.mono ?_
        rintro e w1 ⟨rfl, rfl⟩
        go_wp2
        go_ret2
        exact ⟨0, rfl, hr, rfl⟩
      | true =>
        refine (rShare_ok h (by omega) (by omega) hp hq).mono ?_
        rintro e w' ⟨r, rfl, hr, rfl⟩
        have hE : shE l p = 0 := by unfold shE; rw [if_neg h1, if_neg h2, hq]; rfl
        exact ⟨r, by rw [hE], .inl ⟨hE, hr⟩, rfl⟩

set_option maxHeartbeats 4000000 in
theorem share_law {w : World} {v : Value} {l : List Int} {p : Nat} (h : IntsAt w v l) (hz : l.length * 8 ≤ 140737488351232) (hp : p < 18446744073709551616) : Calls Try.prog 4 #[v, .float .f64 p] w fun e w' => e = .returned (.bool true) ∧ Below w.heap.size w w' := by
  obtain ⟨ao, c, rfl⟩ := h.form
  have ee : (shE l p == shE l p) = true := by simp
  have H := hid h
  have HONE := hid (fun (x y : Int) => ShR.one (l := l) (p := p) (x := x) (y := y))
  have C1 : Hid (∀ (W : World) (x : Value), IntsAt W x l → Calls Try.prog 15 #[x, .float .f64 p] W fun e w' => ∃ r, e = .returned (.tuple #[.int .i64 r, .int .i64 (shE l p)]) ∧ ShR l p r ∧ Below W.heap.size W w') := hid (fun W x hx => Share_tot hx hp)
  have C2 : Hid (∀ (W : World) (x : Value), IntsAt W x l → Calls Try.prog 16 #[x, .float .f64 p] W fun e w' => ∃ r, e = .returned (.tuple #[.int .i64 r, .int .i64 (shE l p)]) ∧ ShR l p r ∧ w' = W) := hid (fun W x hx => rShare_tot hx hp)
  generalize shE l p = E at ee C1 C2
  clear h hp
  go_enter Try.func4, Try.ntmps4
  go_wp2_with fail
  refine shown_any.mono ?_
  rintro e w1 ⟨rfl, hb1⟩
  have HB1 := hid hb1
  have cl := hid (lent_any (H.out.later hb1) hz)
  clear hb1
  go_wp2_with fail
  refine cl.out.mono ?_
  rintro e w2 ⟨x, rfl, hA⟩
  have hi := ints_of_all hA
  obtain ⟨oo, oc, rfl⟩ := hi.form
  have hll : (lentL l).length = l.length + 8 := by simp [lentL]
  have hcap := hi.cap.1
  have HB2 := hid (HB1.out.trans ((inC_of (w := w1) hA (by simp)).mono HB1.out.size))
  have HI := hid hi
  have HF := hid (lent_front hi)
  rw [hll] at hcap HI ⊢
  have hc1 : l.length ≤ oc := by omega
  have hc2 : l.length ≤ l.length + 8 := by omega
  have c1 := hid (C1.out _ _ HF.out)
  clear hi hA cl HB1 hll
  go_wp2_with fail
  refine c1.out.mono ?_
  rintro e w3 ⟨r, rfl, hr, hb3⟩
  have HB3 := hid (HB2.out.trans (hb3.mono HB2.out.size))
  have HI3 := hid (HI.out.later hb3)
  have HR := hid hr
  have c2 := hid (C2.out _ _ (H.out.later HB3.out))
  clear c1 hb3 HB2 HI HF hr
  go_wp2_with fail
  refine c2.out.mono ?_
  rintro e w4 ⟨r2, rfl, hr2, rfl⟩
  obtain rfl := HONE.out _ _ HR.out hr2
  have rr : (r == r) = true := by simp
  have cS := hid (still_any HI3.out (H.out.later HB3.out) hz)
  clear hr2 HR c2
  go_wp2_with fail
  refine cS.out.mono ?_
  rintro e w5 ⟨rfl, q, rfl⟩
  go_wp2
  go_ret
  exact ⟨rfl, HB3.out.trans (bdN' _ _ _)⟩
end Go.Proofs.Ytkaigmoeagjjgaa

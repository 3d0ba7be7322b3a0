import Derived.Test.YtkaigmoeagjjgabSmo
import Derived.Test.YtkaigmoeagjjgabShw
namespace Go.Proofs.Ytkaigmoeagjjgab
open Go.RowKit
set_option linter.unusedVariables false

theorem own_at {t : TypeId} {oo : Option Addr} {n c : Nat} {vs : List Value} {cs : List Comp} {w : World} (h : All (ownC t (.slice oo n c) vs :: cs) w) {j : Nat} {z : Value} (hz : vs[j]? = some z) : ∃ g, oo = some ⟨g, 0, none⟩ ∧ w.cell? ⟨g, j, none⟩ = some z := by
  have h' : w.ownsRow 0 t 1 (.slice oo n c) vs.length vs := h.1.2.1
  rcases h'.2 with ⟨e, e2⟩ | ⟨g, cap, cur, e, hg0, hg, hn', hm, hcs, ht⟩
  · have := (List.getElem?_eq_some_iff.1 hz).1
    omega
  · simp only [Value.slice.injEq] at e
    obtain ⟨rfl, _, rfl⟩ := e
    refine ⟨g, rfl, ?_⟩
    rw [cell_at hg]
    rw [← ht, List.getElem?_take] at hz
    split at hz
    · simpa using hz
    · cases hz
theorem own_cap {t : TypeId} {oo : Option Addr} {n c : Nat} {vs : List Value} {cs : List Comp} {w : World} (h : All (ownC t (.slice oo n c) vs :: cs) w) : n ≤ c ∧ n = vs.length := by
  have h' : w.ownsRow 0 t 1 (.slice oo n c) vs.length vs := h.1.2.1
  rcases h'.2 with ⟨e, e2⟩ | ⟨g, cap, cur, e, hg0, hg, hn', hm, hcs, ht⟩
  · simp only [Value.slice.injEq] at e; omega
  · simp only [Value.slice.injEq] at e; omega

theorem bdN' (n : Nat) (w : World) (q : Nat) : Below n w (w.drewN q) := ⟨rfl, rfl, rfl, Nat.le_refl _, fun _ _ => rfl⟩
def W1 : Nat := 4607182418800017408
theorem isP_one : isP W1 = true := by decide +kernel
theorem getD_at {l : List Int} {k : Nat} {x : Int} (h : l[k]? = some x) : l.getD k 0 = x := by simp [List.getD, h]
theorem whole_is {l : List Int} (hl : ∀ x ∈ l, x.natAbs ≤ Flt.B) : ∀ k, k < l.length → Flt.Is (smN W1 l k) (l.getD k 0 * Flt.one)
  | 0, hk => Flt.fx_Is' (Nat.le_trans (hl _ (getD_mem hk)) (by decide))
  | k + 1, hk => by
    have ih := whole_is hl k (by omega)
    obtain ⟨d, q, r, e1, e2, e3, h⟩ := Flt.whole_step ih (Flt.fx_Is' (Nat.le_trans (hl _ (getD_mem hk)) (by decide))) is_one (hl _ (getD_mem (by omega))) (hl _ (getD_mem hk))
    have g1 : fsub (Flt.fx (l.getD (k + 1) 0)) (smN W1 l k) = d := by unfold fsub; rw [e1]; rfl
    have g2 : fmul W1 d = q := by unfold fmul W1; rw [e2]; rfl
    have g3 : fadd (smN W1 l k) q = r := by unfold fadd; rw [e3]; rfl
    show Flt.Is (smS _ _ _) _
    unfold smS
    rw [g1, g2, g3]
    exact h
theorem whole_eq {l : List Int} (hl : ∀ x ∈ l, x.natAbs ≤ Flt.B) {k : Nat} {x : Int} (hx : l[k]? = some x) : Ieee.double.order (smN W1 l k) (Flt.fx x) = some .eq := by
  have hk := (List.getElem?_eq_some_iff.1 hx).1
  have := whole_is hl k hk
  rw [getD_at hx] at this
  exact Flt.order_int this (Flt.fx_Is' (Nat.le_trans (hl _ (List.mem_of_getElem? hx)) (by decide)))

def InB (x : Int) : Prop := -4503599627370496 ≤ x ∧ x ≤ 4503599627370496

set_option maxHeartbeats 2000000 in
theorem whole_law {w : World} {v : Value} {l : List Int} (h : IntsAt w v l) (hs : Sm l) (hz : l.length * 8 ≤ 140737488351232) : Calls Try.prog 6 #[v] w fun e w' => e = .returned (.bool true) ∧ Below w.heap.size w w' := by
  obtain ⟨ao, c, rfl⟩ := h.form
  obtain ⟨hc, _⟩ := h.cap
  have H1 := hid h
  by_cases hn : 4096 < l.length
  · clear h hs
    go_enter Try.func6, Try.ntmps6
    go_wp2_with fail
    refine shown_any.mono ?_
    rintro e w1 ⟨rfl, hb1⟩
    have HB1 := hid hb1
    clear hb1
    go_wp2_with fail
    refine (Smooth_many hn).mono ?_
    rintro e w2 ⟨rfl, rfl⟩
    go_wp2
    go_ret
    exact ⟨rfl, HB1.out⟩
  · have hn' : l.length ≤ 4096 := by omega
    have HS := hid hs
    clear h hs
    go_enter Try.func6, Try.ntmps6
    go_wp2_with fail
    refine shown_any.mono ?_
    rintro e w1 ⟨rfl, hb1⟩
    have HB1 := hid hb1
    go_wp2_with fail
    refine (Smooth_ok (x := W1) (H1.out.later hb1) HS.out hn' (by decide) isP_one).mono ?_
    rintro e w2 ⟨u, rfl, hA⟩
    obtain ⟨oo, oc, rfl⟩ := owns_form (show w2.ownsRow 0 23 1 u _ _ from hA.1.2.1)
    have HA := hid hA
    have hb2 := inC_of (w := w1) hA (by simp)
    have HB2 := hid (hb1.trans (hb2.mono hb1.size))
    have hoc := (own_cap hA).1
    rw [show (flts (smL W1 l)).length = l.length by rw [List.length_map, smL_len]] at hoc ⊢
    clear hb1 hA hb2
    go_wp2
    go_loopw [5] (fun s wr => ∃ k : Nat, k ≤ l.length ∧ (∀ x ∈ l.take k, x.natAbs ≤ Flt.B) ∧ s = .int .i64 (k : Int) ∧ wr = w2) (fun s _ => l.length - (intOf s).toNat)
    case atStart => exact ⟨0, Nat.zero_le _, by simp, rfl, rfl⟩
    case round =>
      obtain ⟨k, hk, hall, rfl, rfl⟩ := hrel
      have hbw := HB2.out
      by_cases hlt : k < l.length
      · obtain ⟨x, hx⟩ : ∃ x, l[k]? = some x := ⟨_, List.getElem?_eq_getElem hlt⟩
        obtain ⟨g, off, rfl, hg, cx⟩ := H1.out.at hx
        have cx2 := (hbw.cell (p := ⟨g, off + k, none⟩) hg).trans cx
        have HX := hid hx
        have HALL := hid hall
        clear hx hall cx hbw
        by_cases d1 : x < -4503599627370496
        · have e1 : decide (x < -4503599627370496) = true := decide_eq_true d1
          clear d1
          go_wp2
          go_ret
          exact ⟨rfl, HB2.out⟩
        · have e1 : decide (x < -4503599627370496) = false := decide_eq_false d1
          by_cases d2 : 4503599627370496 < x
          · have e2 : decide (4503599627370496 < x) = true := decide_eq_true d2
            clear d2
            go_wp2
            go_ret
            exact ⟨rfl, HB2.out⟩
          · have e2 : decide (4503599627370496 < x) = false := decide_eq_false d2
            have hin := hid (show ∀ y ∈ l.take (k + 1), y.natAbs ≤ Flt.B by
              rw [take_snoc HX.out]
              intro y hy
              rcases List.mem_append.1 hy with hy | hy
              · exact HALL.out y hy
              · rw [List.mem_singleton] at hy
                subst hy
                have : Flt.B = 4503599627370496 := rfl
                omega)
            clear d1 d2
            go_wp2
            go_roundw
            case rel => exact ⟨k + 1, by omega, hin.out, rfl, trivial⟩
            case measure => simp [intOf]; omega
      · obtain rfl : k = l.length := by omega
        rw [List.take_length] at hall
        have HALL := hid hall
        clear hall
        go_wp2
        go_loopw [6] (fun s wx => ∃ k q : Nat, k ≤ l.length ∧ s = .int .i64 (k : Int) ∧ wx = wr.drewN q) (fun s _ => l.length - (intOf s).toNat)
        case atStart => exact ⟨0, 0, Nat.zero_le _, rfl, rfl⟩
        case round =>
          obtain ⟨k, q, hk, rfl, rfl⟩ := hrel
          by_cases hlt : k < l.length
          · obtain ⟨x, hx⟩ : ∃ x, l[k]? = some x := ⟨_, List.getElem?_eq_getElem hlt⟩
            obtain ⟨g, off, rfl, hg, cx⟩ := H1.out.at hx
            have cx2 := (hbw.cell (p := ⟨g, off + k, none⟩) hg).trans cx
            obtain ⟨g2, rfl, cy⟩ := own_at HA.out (j := k) (z := .float .f64 (smN W1 l k)) (by simp [smL_at W1 l hlt])
            have ho : (FloatKind.f64.format.order (smN W1 l k) (floatOfInt .f64 x) != some .eq) = false := by
              rw [show FloatKind.f64.format.order (smN W1 l k) (floatOfInt .f64 x) = some .eq from whole_eq HALL.out hx]; rfl
            generalize smN W1 l k = N at cy ho
            clear hx cx hbw
            go_upto_region 16 with fail
            go_region
            go_wp2
            go_roundw
            case rel => exact ⟨k + 1, q + 1, by omega, rfl, rfl⟩
            case measure => simp [intOf]; omega
          · have hkk : k = l.length := by omega
            clear hbw hkk
            go_wp2
            go_ret
            exact ⟨rfl, HB2.out.trans (bdN' _ _ _)⟩
end Go.Proofs.Ytkaigmoeagjjgab

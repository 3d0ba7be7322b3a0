import Derived.Test.YtkaigmoeagjjgaaRfS
import Derived.Test.YtkaigmoeagjjgaaLen
import Derived.BigQuiet
namespace Go.Proofs.Ytkaigmoeagjjgaa
open Go.RowKit
set_option linter.unusedVariables false

theorem nb_mono (es : List Int) {a b : Int} (h : a ≤ b) : nb es a ≤ nb es b := List.countP_mono_left fun x _ hx => by simp at *; omega
theorem nb_at {es : List Int} (hr : Ris es) {j : Nat} {e : Int} (hj : es[j]? = some e) (x : Int) : (e ≤ x ↔ j < nb es x) := by
  have hs : es.Pairwise (· ≤ ·) := hr.imp Int.le_of_lt
  have h := na_at es j e hs hj
  change j + 1 ≤ nb es e ∧ ∀ b, b < e → nb es b ≤ j at h
  constructor
  · intro hx
    have := nb_mono es hx
    omega
  · intro hlt
    refine Int.not_lt.1 fun hx => ?_
    have := h.2 x hx
    omega
/-- between the edges -/
def btw (es : List Int) (i : Nat) (x : Int) : Bool := (decide (i = 0) || decide (es.getD (i - 1) 0 ≤ x)) && (decide (i = es.length) || decide (x < es.getD i 0))
theorem getD_some {es : List Int} {i : Nat} (h : i < es.length) : es[i]? = some (es.getD i 0) := by simp [List.getD, List.getElem?_eq_getElem h]
theorem btw_nb {es : List Int} (hr : Ris es) {i : Nat} (hi : i ≤ es.length) (x : Int) : btw es i x = decide (nb es x = i) := by
  have hle := nb_le es x
  have h1 : (decide (i = 0) || decide (es.getD (i - 1) 0 ≤ x)) = decide (i ≤ nb es x) := by
    by_cases c : i = 0
    · subst c; simp
    · have := nb_at hr (getD_some (es := es) (i := i - 1) (by omega)) x
      rw [decide_eq_false c, Bool.false_or]
      by_cases d : es.getD (i - 1) 0 ≤ x
      · rw [decide_eq_true d, decide_eq_true (by have := this.1 d; omega)]
      · rw [decide_eq_false d, decide_eq_false (fun h => d (this.2 (by omega)))]
  have h2 : (decide (i = es.length) || decide (x < es.getD i 0)) = decide (nb es x ≤ i) := by
    by_cases c : i = es.length
    · rw [decide_eq_true c, Bool.true_or, decide_eq_true (by omega)]
    · have := nb_at hr (getD_some (es := es) (i := i) (by omega)) x
      rw [decide_eq_false c, Bool.false_or]
      by_cases d : x < es.getD i 0
      · rw [decide_eq_true d, decide_eq_true (by
          refine Nat.not_lt.1 fun h => ?_
          have := this.2 h; omega)]
      · rw [decide_eq_false d, decide_eq_false (fun h => by have := this.1 (by omega); omega)]
  unfold btw
  rw [h1, h2]
  by_cases e : nb es x = i
  · rw [decide_eq_true e, decide_eq_true (by omega), decide_eq_true (by omega)]; rfl
  · rw [decide_eq_false e]
    by_cases f : i ≤ nb es x
    · rw [decide_eq_true f, decide_eq_false (by omega)]; rfl
    · rw [decide_eq_false f]; rfl
def cnt (l es : List Int) (i : Nat) : Nat := l.countP (btw es i)
theorem cnt_bars {l es : List Int} (hr : Ris es) {i : Nat} (hi : i < es.length + 1) : (barsL l es)[i]? = some (cnt l es i : Int) := by
  rw [barsL_at l es hi]
  congr 2
  unfold cnt
  congr 1
  funext x
  rw [btw_nb hr (by omega)]
theorem cnt_snoc (l es : List Int) (i : Nat) (x : Int) : cnt (l ++ [x]) es i = cnt l es i + (if btw es i x = true then 1 else 0) := by
  unfold cnt; rw [List.countP_append]; simp [List.countP_cons]
theorem cnt_le (l es : List Int) (i : Nat) : cnt l es i ≤ l.length := List.countP_le_length

theorem rBars_many {w : World} {a b : Option Addr} {n m c d : Nat} (h : 4096 < n ∨ 4096 < m) : Calls Try.prog 18 #[.slice a n c, .slice b m d] w fun e w' => e = .returned (.tuple #[.slice none 0 0, .int .i64 220]) ∧ w' = w := by
  by_cases h1 : 4096 < n
  · clear h
    go_enter Try.func18, Try.ntmps18
    go_wp2
    go_ret2
    exact ⟨rfl, rfl⟩
  · have h2 : 4096 < m := by omega
    clear h
    go_enter Try.func18, Try.ntmps18
    go_wp2
    go_ret2
    exact ⟨rfl, rfl⟩

set_option maxHeartbeats 8000000 in
theorem rBars_any {w : World} {v u : Value} {l es : List Int} (h : IntsAt w v l) (h2 : IntsAt w u es) (hl : l.length ≤ 4096) (he : es.length ≤ 4096) : Calls Try.prog 18 #[v, u] w fun e w' => BarPost l es w e w' := by
  obtain ⟨ao, c, rfl⟩ := h.form
  obtain ⟨bo, d, rfl⟩ := h2.form
  obtain ⟨hc, _⟩ := h.cap
  obtain ⟨hd, _⟩ := h2.cap
  obtain ⟨Q, hQ⟩ : ∃ Q : Ending → World → Prop, Hid (Q = fun e w' => BarPost l es w e w') := ⟨_, rfl⟩
  rw [← hQ.out]
  have H1 := hid h
  have H2 := hid h2
  clear h h2
  go_enter Try.func18, Try.ntmps18
  go_wp2
  go_loopw [6] (fun s wr => ∃ i q : Nat, 1 ≤ i ∧ (i ≤ es.length ∨ i = 1) ∧ Ris (es.take i) ∧ s = .int .i64 (i : Int) ∧ wr = w.drewN q) (fun s _ => es.length + 1 - (intOf s).toNat)
  case atStart =>
    refine ⟨1, 0, Nat.le_refl _, Or.inr rfl, ?_, rfl, rfl⟩
    unfold Ris
    cases es with
    | nil => exact List.Pairwise.nil
    | cons a t => exact List.pairwise_singleton _ _
  case round =>
    obtain ⟨i, q, h1i, hk, hR, rfl, rfl⟩ := hrel
    by_cases hlt : i < es.length
    · obtain ⟨k, hki⟩ : ∃ k, Hid (i = k + 1) := ⟨i - 1, hid (by omega)⟩
      obtain ⟨a, ha⟩ : ∃ x, es[k]? = some x := ⟨_, List.getElem?_eq_getElem (by have := hki.out; omega)⟩
      obtain ⟨b, hb⟩ : ∃ x, es[i]? = some x := ⟨_, List.getElem?_eq_getElem hlt⟩
      obtain ⟨g, off, rfl, hg, ca⟩ := H2.out.at ha
      obtain ⟨g', off', e, _, cb⟩ := H2.out.at hb
      simp only [Option.some.injEq, Addr.mk.injEq, and_true] at e
      obtain ⟨rfl, rfl⟩ := e
      have hs := hid (ris_snoc (by rw [← hki.out]; exact hR) ha (by rw [← hki.out]; exact hb))
      have wk : IntKind.i64.wrap ((i : Int) - 1) = (k : Int) := by
        have := hki.out
        rw [show (i : Int) - 1 = (k : Int) by omega]
        exact i64_wrap_nat (by omega)
      clear ha hb hR
      have c2 : (w.drewN q).drew.cell? ⟨g, off + i, none⟩ = some (.int .i64 b) := cb
      have c1 : (w.drewN q).drew.cell? ⟨g, off + k, none⟩ = some (.int .i64 a) := ca
      have hkl : k < es.length := by have := hki.out; omega
      by_cases hba : b ≤ a
      · have db : decide (b ≤ a) = true := decide_eq_true hba
        have hnr := hid (hs.out.1 hba)
        go_upto_region 6 with fail
        go_region
        go_wp2
        rw [hQ.out]
        exact Or.inr ⟨hnr.out, rfl, bdN w (q + 1)⟩
      · have db : decide (b ≤ a) = false := decide_eq_false hba
        have hnr := hid (hs.out.2 (by omega))
        go_upto_region 6 with fail
        go_region
        go_wp2
        go_roundw
        case rel => exact ⟨i + 1, q + 1, by omega, Or.inl (by omega), by rw [hki.out]; exact hnr.out, rfl, rfl⟩
        case measure => simp [intOf]; omega
    · have hRis : Ris es := by
        have : es.take i = es := List.take_of_length_le (by omega)
        rw [← this]; exact hR
      have HR := hid hRis
      clear hR hRis
      obtain ⟨wq, hwq⟩ : ∃ wq, wq = w.drewN q := ⟨_, rfl⟩
      have A0 := hid (own_nil (show All [inC w] wq by rw [hwq]; exact (All.came w).drewN q))
      rw [← hwq]
      clear hwq
      go_wp2
      generalize wq.alloc (.cells #[] 3) = w2 at A0 ⊢
      go_loopw [7, 8] (fun u s wr => ∃ (i oc : Nat) (oo : Option Addr), i ≤ es.length + 1 ∧ u = .slice oo i oc ∧ s = .int .i64 (i : Int) ∧ All [ownC 3 u (ints ((barsL l es).take i)), inC w] wr) (fun _ s _ => es.length + 1 - (intOf s).toNat)
      case atStart => exact ⟨0, 0, _, Nat.zero_le _, rfl, rfl, A0.out⟩
      case round =>
        obtain ⟨i, oc, oo, hi, rfl, rfl, hA⟩ := hrel
        have HA := hid hA
        clear hA A0
        by_cases hlt2 : i < es.length + 1
        · have hii : ((i : Int) ≤ (es.length : Int)) := by omega
          obtain ⟨wo, hwo⟩ : ∃ wo, wo = wr := ⟨_, rfl⟩
          rw [← hwo] at HA ⊢
          clear hwo
          have hbo := hid (inC_of (w := w) HA.out (by simp))
          go_wp2
          go_loopw [9, 10] (fun n s wx => ∃ k : Nat, k ≤ l.length ∧ n = .int .i64 (cnt (l.take k) es i : Nat) ∧ s = .int .i64 (k : Int) ∧ ∃ q, wx = wo.drewN q) (fun _ s _ => l.length - (intOf s).toNat)
          case atStart => exact ⟨0, Nat.zero_le _, rfl, rfl, 0, rfl⟩
          case round =>
            obtain ⟨k, hk2, rfl, rfl, hq⟩ := hrel
            have hcw : ∀ b o, wr.cell? ⟨b, o, none⟩ = wo.cell? ⟨b, o, none⟩ := fun b o => by obtain ⟨q, rfl⟩ := hq; rfl
            have HQ := hid hq
            clear hq
            by_cases hlt3 : k < l.length
            · obtain ⟨x, hx⟩ : ∃ x, l[k]? = some x := ⟨_, List.getElem?_eq_getElem hlt3⟩
              obtain ⟨g, off, rfl, hg, cx⟩ := H1.out.at hx
              have cx2 : wr.cell? ⟨g, off + k, none⟩ = some (.int .i64 x) := (hcw _ _).trans ((hbo.out.cell (p := ⟨g, off + k, none⟩) hg).trans cx)
              have hsn := hid (show cnt (l.take (k + 1)) es i = _ by rw [take_snoc hx, cnt_snoc])
              have hle : cnt (l.take k) es i ≤ 4096 := Nat.le_trans (cnt_le _ _ _) (by rw [List.length_take]; omega)
              generalize cnt (l.take k) es i = N at hsn hle ⊢
              clear hx cx
              have hkl : (k : Int) < (l.length : Int) := by omega
              by_cases c0 : i = 0
              · have HT : (decide (i = 0) || decide (es.getD (i - 1) 0 ≤ x)) = true := by rw [decide_eq_true c0]; rfl
                have g0 : ((i : Int) == 0) = true := by simp [c0]
                have g1 : decide ((i : Int) = 0) = true := by simp [c0]
                by_cases c1 : i = es.length
                · have hbt := hid (show btw es i x = true by unfold btw; rw [HT, decide_eq_true c1]; rfl)
                  have m0 : ((i : Int) == (es.length : Int)) = true := by simp [c1]
                  have m1 : decide ((i : Int) = (es.length : Int)) = true := by simp [c1]
                  clear HT c0 c1 hcw
                  go_upto_region 16 with fail
                  go_big_quiet (fail)
                  go_wp2
                  exact ⟨⟨k + 1, by omega, by rw [hsn.out, if_pos hbt.out]; rfl, rfl, by obtain ⟨q, rfl⟩ := HQ.out; exact ⟨q + nq, World.drewN_drewN _ _ _⟩⟩, by simp [intOf]; omega⟩
                · have hil : i < es.length := by omega
                  have hil2 : (i : Int) < (es.length : Int) := by omega
                  have m0 : ((i : Int) == (es.length : Int)) = false := by simp; omega
                  have m1 : decide ((i : Int) = (es.length : Int)) = false := by simp; omega
                  obtain ⟨b, hb⟩ : ∃ b, es[i]? = some b := ⟨_, List.getElem?_eq_getElem hil⟩
                  obtain ⟨g2, off2, e2, hg2, cb⟩ := H2.out.at hb
                  subst e2
                  have cb2 : wr.cell? ⟨g2, off2 + i, none⟩ = some (.int .i64 b) := (hcw _ _).trans ((hbo.out.cell (p := ⟨g2, off2 + i, none⟩) hg2).trans cb)
                  have hgd : es.getD i 0 = b := by rw [List.getD, hb]; rfl
                  by_cases d : x < b
                  · have hbt := hid (show btw es i x = true by unfold btw; rw [HT, hgd, decide_eq_false c1, decide_eq_true d]; rfl)
                    have dd : decide (x < b) = true := decide_eq_true d
                    clear HT c0 c1 hcw cb hb hgd d
                    go_upto_region 16 with fail
                    go_big_quiet (fail)
                    go_wp2
                    exact ⟨⟨k + 1, by omega, by rw [hsn.out, if_pos hbt.out]; rfl, rfl, by obtain ⟨q, rfl⟩ := HQ.out; exact ⟨q + nq, World.drewN_drewN _ _ _⟩⟩, by simp [intOf]; omega⟩
                  · have hbt := hid (show ¬ btw es i x = true by unfold btw; rw [HT, hgd, decide_eq_false c1, decide_eq_false d]; simp)
                    have dd : decide (x < b) = false := decide_eq_false d
                    clear HT c0 c1 hcw cb hb hgd d
                    go_upto_region 16 with fail
                    go_big_quiet (fail)
                    go_wp2
                    exact ⟨⟨k + 1, by omega, by rw [hsn.out, if_neg hbt.out]; rfl, rfl, by obtain ⟨q, rfl⟩ := HQ.out; exact ⟨q + nq, World.drewN_drewN _ _ _⟩⟩, by simp [intOf]; omega⟩
              · obtain ⟨j, hj⟩ : ∃ j, Hid (i = j + 1) := ⟨i - 1, hid (by omega)⟩
                have g0 : ((i : Int) == 0) = false := by simp [c0]
                have g1 : decide ((i : Int) = 0) = false := by simp [c0]
                have hjl : j < es.length := by have := hj.out; omega
                have hjl2 : (j : Int) < (es.length : Int) := by omega
                obtain ⟨a, ha⟩ : ∃ a, es[j]? = some a := ⟨_, List.getElem?_eq_getElem hjl⟩
                obtain ⟨g2, off2, rfl, hg2, ca⟩ := H2.out.at ha
                have ca2 : wr.cell? ⟨g2, off2 + j, none⟩ = some (.int .i64 a) := (hcw _ _).trans ((hbo.out.cell (p := ⟨g2, off2 + j, none⟩) hg2).trans ca)
                have hgd : es.getD (i - 1) 0 = a := by rw [show i - 1 = j by have := hj.out; omega, List.getD, ha]; rfl
                have wk : IntKind.i64.wrap ((i : Int) - 1) = (j : Int) := by
                  have := hj.out
                  rw [show (i : Int) - 1 = (j : Int) by omega]
                  exact i64_wrap_nat (by omega)
                by_cases d : a ≤ x
                · have HT : (decide (i = 0) || decide (es.getD (i - 1) 0 ≤ x)) = true := by rw [hgd, decide_eq_true d, Bool.or_true]
                  have da : decide (a ≤ x) = true := decide_eq_true d
                  clear d hgd ca ha
                  by_cases c1 : i = es.length
                  · have hbt := hid (show btw es i x = true by unfold btw; rw [HT, decide_eq_true c1]; rfl)
                    have m0 : ((i : Int) == (es.length : Int)) = true := by simp [c1]
                    have m1 : decide ((i : Int) = (es.length : Int)) = true := by simp [c1]
                    clear HT c0 c1 hcw
                    go_upto_region 16 with fail
                    go_big_quiet (fail)
                    go_wp2
                    exact ⟨⟨k + 1, by omega, by rw [hsn.out, if_pos hbt.out]; rfl, rfl, by obtain ⟨q, rfl⟩ := HQ.out; exact ⟨q + nq, World.drewN_drewN _ _ _⟩⟩, by simp [intOf]; omega⟩
                  · have hil : i < es.length := by omega
                    have hil2 : (i : Int) < (es.length : Int) := by omega
                    have m0 : ((i : Int) == (es.length : Int)) = false := by simp; omega
                    have m1 : decide ((i : Int) = (es.length : Int)) = false := by simp; omega
                    obtain ⟨b, hb⟩ : ∃ b, es[i]? = some b := ⟨_, List.getElem?_eq_getElem hil⟩
                    obtain ⟨g2, off2, e2, hg2, cb⟩ := H2.out.at hb
                    simp only [Option.some.injEq, Addr.mk.injEq, and_true] at e2
                    obtain ⟨rfl, rfl⟩ := e2
                    have cb2 : wr.cell? ⟨g2, off2 + i, none⟩ = some (.int .i64 b) := (hcw _ _).trans ((hbo.out.cell (p := ⟨g2, off2 + i, none⟩) hg2).trans cb)
                    have hgd : es.getD i 0 = b := by rw [List.getD, hb]; rfl
                    by_cases d : x < b
                    · have hbt := hid (show btw es i x = true by unfold btw; rw [HT, hgd, decide_eq_false c1, decide_eq_true d]; rfl)
                      have dd : decide (x < b) = true := decide_eq_true d
                      clear HT c0 c1 hcw cb hb hgd d
                      go_upto_region 16 with fail
                      go_big_quiet (fail)
                      go_wp2
                      exact ⟨⟨k + 1, by omega, by rw [hsn.out, if_pos hbt.out]; rfl, rfl, by obtain ⟨q, rfl⟩ := HQ.out; exact ⟨q + nq, World.drewN_drewN _ _ _⟩⟩, by simp [intOf]; omega⟩
                    · have hbt := hid (show ¬ btw es i x = true by unfold btw; rw [HT, hgd, decide_eq_false c1, decide_eq_false d]; simp)
                      have dd : decide (x < b) = false := decide_eq_false d
                      clear HT c0 c1 hcw cb hb hgd d
                      go_upto_region 16 with fail
                      go_big_quiet (fail)
                      go_wp2
                      exact ⟨⟨k + 1, by omega, by rw [hsn.out, if_neg hbt.out]; rfl, rfl, by obtain ⟨q, rfl⟩ := HQ.out; exact ⟨q + nq, World.drewN_drewN _ _ _⟩⟩, by simp [intOf]; omega⟩
                · have HT : (decide (i = 0) || decide (es.getD (i - 1) 0 ≤ x)) = false := by rw [hgd, decide_eq_false d, decide_eq_false c0]; rfl
                  have da : decide (a ≤ x) = false := decide_eq_false d
                  clear d hgd ca ha
                  have hbt := hid (show ¬ btw es i x = true by unfold btw; rw [HT]; simp)
                  clear HT c0 hcw
                  go_upto_region 16 with fail
                  go_big_quiet (fail)
                  go_wp2
                  exact ⟨⟨k + 1, by omega, by rw [hsn.out, if_neg hbt.out]; rfl, rfl, by obtain ⟨q, rfl⟩ := HQ.out; exact ⟨q + nq, World.drewN_drewN _ _ _⟩⟩, by simp [intOf]; omega⟩
            · obtain rfl : k = l.length := by omega
              rw [List.take_length]
              have hcl : cnt l es i ≤ l.length := cnt_le _ _ _
              have hcb := cnt_bars (l := l) HR.out hlt2
              have HB1 := hid (take_snoc hcb)
              have hzl : ((barsL l es).take i).length = i := by rw [List.length_take, barsL_len]; omega
              have hA9 : All [ownC 3 (.slice oo i oc) (ints ((barsL l es).take i)), inC w] wr := by obtain ⟨q, rfl⟩ := HQ.out; exact HA.out.drewN q
              generalize cnt l es i = N at hcl hcb HB1 ⊢
              generalize (barsL l es).take i = zs at HB1 hzl hA9
              have A1 := hid (hA9.alloc (.cells #[.int .i64 (N : Int)] 3))
              have hb8 : (zs.length + [(N : Int)].length) * 8 ≤ 140737488355328 := by rw [List.length_singleton]; omega
              clear hcb hA9 hcw HQ hcl
              go_wp2_with (at_builtin; refine wpList_app rfl rfl A1.out rfl rfl (ints_new _ _) hb8 ?_; intro v' w' hA2 hf hsz; obtain ⟨oo3, oc3, rfl⟩ := hf; have HA2 := hid hA2; clear hA2 hsz)
              have hfin := hid (show All [ownC 3 (.slice oo3 (i + 1) oc3) (ints ((barsL l es).take (i + 1))), inC w] w' by
                have h := HA2.out
                rw [hzl] at h
                rw [HB1.out]
                exact h)
              clear HA2 A1
              go_wp2
              go_roundw
              case rel => exact ⟨i + 1, oc3, oo3, by omega, rfl, rfl, hfin.out⟩
              case measure => simp [intOf]; omega
        · obtain rfl : i = es.length + 1 := by omega
          have hl1 : ¬ (((es.length + 1 : Nat) : Int) ≤ (es.length : Int)) := by omega
          have e : (barsL l es).take (es.length + 1) = barsL l es := List.take_of_length_le (by rw [barsL_len]; omega)
          rw [e] at HA
          clear e hi hlt2
          go_wp2
          rw [hQ.out]
          exact Or.inl ⟨HR.out, _, rfl, HA.out⟩
end Go.Proofs.Ytkaigmoeagjjgaa

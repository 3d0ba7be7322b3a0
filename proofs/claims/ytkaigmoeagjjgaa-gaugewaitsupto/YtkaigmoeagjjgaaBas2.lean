import Derived.Test.YtkaigmoeagjjgaaBar
import Derived.Test.YtkaigmoeagjjgaaSq
namespace Go.Proofs.Ytkaigmoeagjjgaa
open Go.RowKit
set_option linter.unusedVariables false

def Ris (es : List Int) : Prop := es.Pairwise (· < ·)
theorem ris_snoc {es : List Int} {k : Nat} {a b : Int} (h : Ris (es.take (k + 1))) (ha : es[k]? = some a) (hb : es[k + 1]? = some b) : (b ≤ a → ¬ Ris es) ∧ (a < b → Ris (es.take (k + 2))) := by
  constructor
  · intro hba hr
    have h1 := (List.getElem?_eq_some_iff.1 ha)
    have h2 := (List.getElem?_eq_some_iff.1 hb)
    have := List.pairwise_iff_getElem.1 hr k (k + 1) h1.1 h2.1 (by omega)
    rw [h1.2, h2.2] at this
    omega
  · intro hab
    unfold Ris at h ⊢
    rw [List.take_add_one, hb]
    rw [show (some b).toList = [b] from rfl, List.pairwise_append]
    refine ⟨h, List.pairwise_singleton _ _, fun x hx y hy => ?_⟩
    rw [List.mem_singleton] at hy
    subst hy
    obtain ⟨i, hi, rfl⟩ := List.mem_iff_getElem.1 hx
    rw [List.length_take] at hi
    have hk := (List.getElem?_eq_some_iff.1 ha)
    rw [List.getElem_take]
    by_cases e : i = k
    · subst e; rw [hk.2]; exact hab
    · have h3 := List.pairwise_iff_getElem.1 h i k (by rw [List.length_take]; omega) (by rw [List.length_take]; have := hk.1; omega) (by omega)
      rw [List.getElem_take, List.getElem_take, hk.2] at h3
      omega

def BarPost (l es : List Int) (w : World) (e : Ending) (w' : World) : Prop :=
  (Ris es ∧ ∃ v, e = .returned (.tuple #[v, .int .i64 0]) ∧ All [ownC 3 v (ints (barsL l es)), inC w] w') ∨ (¬ Ris es ∧ e = .returned (.tuple #[.slice none 0 0, .int .i64 1]) ∧ Below w.heap.size w w')
theorem i64_wrap_nat {n : Nat} (h : n < 4611686018427387904) : IntKind.i64.wrap (n : Int) = (n : Int) := by
  simp only [IntKind.wrap, IntKind.signed, IntKind.bits]
  simp
  omega
theorem own_of_blk {g : Nat} {vs : List Value} {cs : List Comp} {w : World} (h : All (blkC g vs 3 :: cs) w) (hs : ∀ v ∈ vs, v.oneCell' = true) (hn : vs.length ≤ maxLen) : All (ownC 3 (.slice (some ⟨g, 0, none⟩) vs.length vs.length) vs :: cs) w := by
  refine ⟨⟨ownC_good _ _ _, ⟨by simp, Or.inr ⟨g, vs.length, vs.toArray, rfl, Nat.zero_le _, h.1.2.1, Nat.le_refl _, hn, by simp, by simp⟩⟩, fun k hk => ?_⟩, fun d hd k hk => ?_, h.2.2⟩
  · have : k = g := by simpa [ownC, Value.ownBlock, eq_comm] using hk
    exact h.1.2.2 k (by simp [blkC, this])
  · have : k = g := by simpa [ownC, Value.ownBlock, eq_comm] using hk
    exact h.2.1 d hd k (by simp [blkC, this])

set_option maxHeartbeats 2000000 in
theorem Bars_any {w : World} {v u : Value} {l es : List Int} (h : IntsAt w v l) (h2 : IntsAt w u es) (hl : l.length ≤ 4096) (he : es.length ≤ 4096) : Calls Try.prog 17 #[v, u] w fun e w' => BarPost l es w e w' := by
  obtain ⟨ao, c, rfl⟩ := h.form
  obtain ⟨bo, d, rfl⟩ := h2.form
  obtain ⟨hc, _⟩ := h.cap
  obtain ⟨hd, _⟩ := h2.cap
  obtain ⟨Q, hQ⟩ : ∃ Q : Ending → World → Prop, Hid (Q = fun e w' => BarPost l es w e w') := ⟨_, rfl⟩
  rw [← hQ.out]
  have H1 := hid h
  have H2 := hid h2
  clear h h2
  go_enter Try.func17, Try.ntmps17
  go_wp2
  go_loopw [6] (fun s wr => ∃ i q : Nat, 1 ≤ i ∧ (i ≤ es.length ∨ i = 1) ∧ Ris (es.take i) ∧ s = .int .i64 (i : Int) ∧ wr = w.drewN q) (fun s _ => es.length + 1 - (intOf s).toNat)
  case atStart =>
    refine ⟨1, 0, Nat.le_refl _, Or.inr rfl, ?_, rfl, rfl⟩
    unfold Ris
    cases es with
    | nil => exact List.Pairwise.nil
    | cons a t => exact List.pairwise_singleton _ _
  case round =>
    obtain ⟨i, q, h1i, hk, hR, rfl, rfl⟩ := hrel
    by_cases hlt : i < es.length
    · obtain ⟨k, hki⟩ : ∃ k, Hid (i = k + 1) := ⟨i - 1, hid (by omega)⟩
      obtain ⟨a, ha⟩ : ∃ x, es[k]? = some x := ⟨_, List.getElem?_eq_getElem (by have := hki.out; omega)⟩
      obtain ⟨b, hb⟩ : ∃ x, es[i]? = some x := ⟨_, List.getElem?_eq_getElem hlt⟩
      obtain ⟨g, off, rfl, hg, ca⟩ := H2.out.at ha
      obtain ⟨g', off', e, _, cb⟩ := H2.out.at hb
      simp only [Option.some.injEq, Addr.mk.injEq, and_true] at e
      obtain ⟨rfl, rfl⟩ := e
      have hs := hid (ris_snoc (by rw [← hki.out]; exact hR) ha (by rw [← hki.out]; exact hb))
      have wk : IntKind.i64.wrap ((i : Int) - 1) = (k : Int) := by
        have := hki.out
        rw [show (i : Int) - 1 = (k : Int) by omega]
        exact i64_wrap_nat (by omega)
      clear ha hb hR
      have c2 : (w.drewN q).drew.cell? ⟨g, off + i, none⟩ = some (.int .i64 b) := cb
      have c1 : (w.drewN q).drew.cell? ⟨g, off + k, none⟩ = some (.int .i64 a) := ca
      have hkl : k < es.length := by have := hki.out; omega
      by_cases hba : b ≤ a
      · have db : decide (b ≤ a) = true := decide_eq_true hba
        have hnr := hid (hs.out.1 hba)
        go_upto_region 6 with fail
        go_region
        go_wp2
        rw [hQ.out]
        exact Or.inr ⟨hnr.out, rfl, bdN w (q + 1)⟩
      · have db : decide (b ≤ a) = false := decide_eq_false hba
        have hnr := hid (hs.out.2 (by omega))
        go_upto_region 6 with fail
        go_region
        go_wp2
        go_roundw
        case rel => exact ⟨i + 1, q + 1, by omega, Or.inl (by omega), by rw [hki.out]; exact hnr.out, rfl, rfl⟩
        case measure => simp [intOf]; omega
    · have hRis : Ris es := by
        have : es.take i = es := List.take_of_length_le (by omega)
        rw [← this]; exact hR
      have HR := hid hRis
      clear hR hRis
      obtain ⟨wq, hwq⟩ : ∃ wq, wq = w.drewN q := ⟨_, rfl⟩
      have A0 := hid ((show All [inC w] wq by rw [hwq]; exact (All.came w).drewN q).addBlk (ints (List.replicate (es.length + 1) 0)) 3)
      obtain ⟨R0, hR0⟩ : ∃ R0, R0 = ints (List.replicate (es.length + 1) 0) := ⟨_, rfl⟩
      have mk : ∀ W : World, (Instr.makeSlice 22 (.int .i64 ((es.length : Int) + 1)) (.int .i64 ((es.length : Int) + 1))).run Try.prog W = .ok (.slice (some ⟨W.heap.size, 0, none⟩) (es.length + 1) (es.length + 1)) (W.alloc (.cells R0.toArray 3)) := fun W => by
        have := make_ints (w := W) (es.length + 1) (by omega)
        rw [show ((es.length + 1 : Nat) : Int) = (es.length : Int) + 1 by omega] at this
        rw [this, hR0]
        simp
      rw [← hR0] at A0
      have HR0 := hid hR0
      clear hR0
      rw [← hwq]
      clear hwq
      go_wp2
      generalize hH : wq.heap.size = H at A0 ⊢
      have A1 : All [blkC H (ints (barsL (l.take 0) es)) 3, inC w] (wq.alloc (.cells R0.toArray 3)) := by
        rw [List.take_zero, barsL_nil, ← HR0.out]; exact A0.out
      have A1 := hid A1
      clear A0 HR0 mk hH
      generalize wq.alloc (.cells R0.toArray 3) = w2 at A1 ⊢
      go_loopw [40] (fun s wr => ∃ k : Nat, k ≤ l.length ∧ s = .int .i64 (k : Int) ∧ All [blkC H (ints (barsL (l.take k) es)) 3, inC w] wr) (fun s _ => l.length - (intOf s).toNat)
      case atStart => exact ⟨0, Nat.zero_le _, rfl, A1.out⟩
      case round =>
        obtain ⟨k, hkl, rfl, hA⟩ := hrel
        have HA := hid hA
        clear hA
        have hbw := inC_of (w := w) HA.out (by simp)
        by_cases hlt2 : k < l.length
        · obtain ⟨x, hx⟩ : ∃ x, l[k]? = some x := ⟨_, List.getElem?_eq_getElem hlt2⟩
          obtain ⟨g, off, rfl, hg, cx⟩ := H1.out.at hx
          have cx2 : wr.cell? ⟨g, off + k, none⟩ = some (.int .i64 x) := (hbw.cell (p := ⟨g, off + k, none⟩) hg).trans cx
          have cb := hid (barOf_any (w := wr) (v := .slice bo es.length d) (x := x) (H2.out.later hbw) HR.out he)
          have hsn := hid (barsL_snoc (l.take k) es x)
          have hN := nb_le es x
          generalize hNN : nb es x = N at cb hsn hN
          obtain ⟨cnt, hcnt⟩ : ∃ cnt : Int, cnt = ((l.take k).countP (fun y => decide (nb es y = N)) : Int) := ⟨_, rfl⟩
          have hcb : 0 ≤ cnt ∧ cnt ≤ 4096 := by
            have := List.countP_le_length (p := fun y => decide (nb es y = N)) (l := l.take k)
            rw [List.length_take] at this
            omega
          have hat := barsL_at (l.take k) es (i := N) (by omega)
          rw [← hcnt] at hsn hat
          have cell0 : wr.cell? ⟨H, N, none⟩ = some (.int .i64 cnt) := by
            rw [cell_at HA.out.1.2.1]
            simp [hat]
          have fr0 : wr.frozen? ⟨H, N, none⟩ = false := free_at HA.out.1.2.1 N
          have hsn' := hid (show barsL (l.take (k + 1)) es = (barsL (l.take k) es).set N (cnt + 1) by rw [take_snoc hx]; exact hsn.out)
          clear hx hsn hat hcnt hbw cx hNN
          go_wp2_with fail
          refine cb.out.mono ?_
          rintro e w3 ⟨rfl, q3, rfl⟩
          have cell1 : (wr.drewN q3).cell? ⟨H, N, none⟩ = some (.int .i64 cnt) := cell0
          have fr1 : (wr.drewN q3).frozen? ⟨H, N, none⟩ = false := fr0
          go_wp2
          go_roundw
          case rel =>
            refine ⟨k + 1, by omega, rfl, ?_⟩
            have := (HA.out.drewN q3).setBlk N (.int .i64 (cnt + 1))
            rw [hsn'.out]
            simpa [ints, List.map_set] using this
          case measure => simp [intOf]; omega
        · obtain rfl : k = l.length := by omega
          rw [List.take_length] at HA
          go_wp2
          rw [hQ.out]
          refine Or.inl ⟨HR.out, _, rfl, ?_⟩
          have := own_of_blk HA.out (ints_one _) (by rw [List.length_map, barsL_len]; unfold maxLen; omega)
          rwa [List.length_map, barsL_len] at this
end Go.Proofs.Ytkaigmoeagjjgaa

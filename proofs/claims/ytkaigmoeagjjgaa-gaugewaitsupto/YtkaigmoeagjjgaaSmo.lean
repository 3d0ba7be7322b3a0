import Derived.Test.YtkaigmoeagjjgaaSam
namespace Go.Proofs.Ytkaigmoeagjjgaa
open Go.RowKit
attribute [local go_sem] run_store_float
set_option linter.unusedVariables false

abbrev flts (xs : List Nat) : List Value := xs.map (Value.float .f64)
theorem flts_one (xs : List Nat) : ∀ v ∈ flts xs, v.oneCell' = true := by
  intro v hv
  obtain ⟨x, _, rfl⟩ := List.mem_map.1 hv
  rfl
def smS (w m : Nat) (x : Int) : Nat := fadd m (fmul w (fsub (Flt.fx x) m))
def smN (w : Nat) (l : List Int) : Nat → Nat
  | 0 => Flt.fx (l.getD 0 0)
  | k + 1 => smS w (smN w l k) (l.getD (k + 1) 0)
def smP (w : Nat) (l : List Int) (k : Nat) : List Nat := (List.range l.length).map fun i => if i < k then smN w l i else 0
def smL (w : Nat) (l : List Int) : List Nat := (List.range l.length).map (smN w l)
theorem smP_len (w : Nat) (l : List Int) (k : Nat) : (smP w l k).length = l.length := by simp [smP]
theorem smL_len (w : Nat) (l : List Int) : (smL w l).length = l.length := by simp [smL]
theorem smP_zero (w : Nat) (l : List Int) : smP w l 0 = List.replicate l.length 0 := by
  apply List.ext_getElem
  · simp [smP]
  · intro i h1 h2; simp [smP]
theorem smP_all (w : Nat) (l : List Int) : smP w l l.length = smL w l := by
  apply List.ext_getElem
  · simp [smP, smL]
  · intro i h1 h2
    simp [smP] at h1
    simp [smP, smL, h1]
theorem smP_at (w : Nat) (l : List Int) {k i : Nat} (h : i < l.length) : (smP w l k)[i]? = some (if i < k then smN w l i else 0) := by
  unfold smP
  rw [List.getElem?_map, List.getElem?_range h]; rfl
theorem smL_at (w : Nat) (l : List Int) {i : Nat} (h : i < l.length) : (smL w l)[i]? = some (smN w l i) := by
  unfold smL
  rw [List.getElem?_map, List.getElem?_range h]; rfl
theorem smP_set (w : Nat) (l : List Int) {k : Nat} (h : k < l.length) : smP w l (k + 1) = (smP w l k).set k (smN w l k) := by
  apply List.ext_getElem?
  intro i
  by_cases hi : i < l.length
  · rw [smP_at _ _ hi, List.getElem?_set, smP_at _ _ hi, smP_len]
    by_cases c : k = i
    · subst c; simp [h]
    · rw [if_neg c]
      by_cases d : i < k
      · simp [d, show i < k + 1 by omega]
      · simp [d, show ¬ i < k + 1 by omega]
  · rw [List.getElem?_eq_none (by rw [smP_len]; omega), List.getElem?_eq_none (by rw [List.length_set, smP_len]; omega)]

theorem sm_step {w m f : Nat} {a b p : Int} (hm : Flt.Is m a) (hf : Flt.Is f b) (hw : Flt.Is w p) (h0 : 0 < p) (h1 : p ≤ Flt.one) (ha : a.natAbs ≤ 2 * 2 ^ Flt.em) (hb : b.natAbs ≤ 2 ^ Flt.em) :
    Ieee.double.sub f m = some (fsub f m) ∧ Ieee.double.mul w (fsub f m) = some (fmul w (fsub f m)) ∧ Ieee.double.add m (fmul w (fsub f m)) = some (fadd m (fmul w (fsub f m))) ∧ ∃ c, Flt.Is (fadd m (fmul w (fsub f m))) c ∧ c.natAbs ≤ 2 * 2 ^ Flt.em := by
  obtain ⟨d, q, r, c, e1, e2, e3, h, hc⟩ := Flt.smooth_step hm hf hw h0 h1 ha hb
  have g1 : fsub f m = d := by unfold fsub; rw [e1]; rfl
  rw [g1]
  have g2 : fmul w d = q := by unfold fmul; rw [e2]; rfl
  rw [g2]
  have g3 : fadd m q = r := by unfold fadd; rw [e3]; rfl
  rw [g3]
  exact ⟨e1, e2, e3, c, h, hc⟩
theorem getD_mem {l : List Int} {k : Nat} (h : k < l.length) : l.getD k 0 ∈ l := by
  simp [List.getD, List.getElem?_eq_getElem h]
theorem sm_is {w : Nat} {l : List Int} {p : Int} (hs : Sm l) (hw : Flt.Is w p) (h0 : 0 < p) (h1 : p ≤ Flt.one) : ∀ k, k < l.length → ∃ c, Flt.Is (smN w l k) c ∧ c.natAbs ≤ 2 * 2 ^ Flt.em
  | 0, hk => ⟨_, Flt.fx_Is _ (hs.abs (getD_mem hk)), Nat.le_trans (Flt.fx_bound _ (hs.abs (getD_mem hk))) (by omega)⟩
  | k + 1, hk => by
    obtain ⟨a, ha, hab⟩ := sm_is hs hw h0 h1 k (by omega)
    exact (sm_step ha (Flt.fx_Is _ (hs.abs (getD_mem hk))) hw h0 h1 hab (Flt.fx_bound _ (hs.abs (getD_mem hk)))).2.2.2
theorem sm_some {w : Nat} {l : List Int} {p : Int} (hs : Sm l) (hw : Flt.Is w p) (h0 : 0 < p) (h1 : p ≤ Flt.one) {k : Nat} {x : Int} (hx : l[k + 1]? = some x) :
    Ieee.double.sub (Flt.fx x) (smN w l k) = some (fsub (Flt.fx x) (smN w l k)) ∧ Ieee.double.mul w (fsub (Flt.fx x) (smN w l k)) = some (fmul w (fsub (Flt.fx x) (smN w l k))) ∧ Ieee.double.add (smN w l k) (fmul w (fsub (Flt.fx x) (smN w l k))) = some (smN w l (k + 1)) := by
  have hk := (List.getElem?_eq_some_iff.1 hx).1
  obtain ⟨a, ha, hab⟩ := sm_is hs hw h0 h1 k (by omega)
  have hxm : x ∈ l := List.mem_of_getElem? hx
  have hd : l.getD (k + 1) 0 = x := by simp [List.getD, hx]
  have := sm_step ha (Flt.fx_Is _ (hs.abs hxm)) hw h0 h1 hab (Flt.fx_bound _ (hs.abs hxm))
  refine ⟨this.1, this.2.1, ?_⟩
  rw [this.2.2.1]
  show _ = some (smS _ _ _)
  rw [hd]; rfl

theorem made_flts (z : Value) (hz : z.cells = #[z]) (n : Nat) : madeCells z.cells (n * 1) = (List.replicate n z).toArray := made_ints z hz n
theorem Try.info25 : (Try.prog.info? 25).map (fun i => (i.zero, i.size, i.bytes)) = some (some (.float .f64 0), 1, 8) := by kernel_rfl
/-- make([]float64, n). -/
theorem make_flts {w : World} (n : Nat) (hn : n ≤ 8192) : (Instr.makeSlice 39 (.int .i64 n) (.int .i64 n)).run Try.prog w = .ok (.slice (some ⟨w.heap.size, 0, none⟩) n n) (w.alloc (.cells (List.replicate n (.float .f64 0)).toArray 25)) := by
  obtain ⟨i0, hi, hz0, hz1, hz2⟩ := info_parts Try.info25
  have h := run_make (P := Try.prog) w 39 25 i0 (.float .f64 0) Try.underlying39 hi hz0 .i64 .i64 n n (by omega) (by omega) (by rw [hz2]; omega) (by omega)
  rw [hz1, Int.toNat_natCast, made_flts (.float .f64 0) rfl] at h
  exact h
theorem own_of_blkF {g : Nat} {vs : List Value} {cs : List Comp} {w : World} (h : All (blkC g vs 25 :: cs) w) (hs : ∀ v ∈ vs, v.oneCell' = true) (hn : vs.length ≤ maxLen) : All (ownC 25 (.slice (some ⟨g, 0, none⟩) vs.length vs.length) vs :: cs) w := by
  refine ⟨⟨ownC_good _ _ _, ⟨by simp, Or.inr ⟨g, vs.length, vs.toArray, rfl, Nat.zero_le _, h.1.2.1, Nat.le_refl _, hn, by simp, by simp⟩⟩, fun k hk => ?_⟩, fun d hd k hk => ?_, h.2.2⟩
  · have : k = g := by simpa [ownC, Value.ownBlock, eq_comm] using hk
    exact h.1.2.2 k (by simp [blkC, this])
  · have : k = g := by simpa [ownC, Value.ownBlock, eq_comm] using hk
    exact h.2.1 d hd k (by simp [blkC, this])

theorem Smooth_many {w : World} {a : Option Addr} {n c x : Nat} (h : 4096 < n) : Calls Try.prog 21 #[.slice a n c, .float .f64 x] w fun e w' => e = .returned (.tuple #[.slice none 0 0, .int .i64 220]) ∧ w' = w := by
  go_enter Try.func21, Try.ntmps21
  go_wp2
  go_ret2
  exact ⟨rfl, rfl⟩
theorem Smooth_part {w : World} {a : Option Addr} {n c x : Nat} (h : n ≤ 4096) (hp : isP x = false) : Calls Try.prog 21 #[.slice a n c, .float .f64 x] w fun e w' => e = .returned (.tuple #[.slice none 0 0, .int .i64 221]) ∧ w' = w := by
  have cp := isPart_any (w := w) (x := x)
  rw [hp] at cp
  clear hp
  go_enter Try.func21, Try.ntmps21
  go_wp2_with fail
  refine cp.mono ?_
  rintro e w1 ⟨rfl, rfl⟩
  go_wp2
  go_ret2
  exact ⟨rfl, rfl⟩

set_option maxHeartbeats 2000000 in
theorem Smooth_ok {w : World} {v : Value} {l : List Int} {x : Nat} (h : IntsAt w v l) (hs : Sm l) (hn : l.length ≤ 4096) (hx : x < 18446744073709551616) (hp : isP x = true) : Calls Try.prog 21 #[v, .float .f64 x] w fun e w' => ∃ u, e = .returned (.tuple #[u, .int .i64 0]) ∧ All [ownC 25 u (flts (smL x l)), inC w] w' := by
  obtain ⟨ao, c, rfl⟩ := h.form
  obtain ⟨hc, _⟩ := h.cap
  have cp := isPart_any (w := w) (x := x)
  rw [hp] at cp
  obtain ⟨p, ha, ha0, ha1⟩ := isP_is hx hp
  have HS := hid (fun (k : Nat) (y : Int) (hy : l[k + 1]? = some y) => sm_some hs ha ha0 ha1 hy)
  have H1 := hid h
  obtain ⟨R0, hR0⟩ : ∃ R0, R0 = flts (List.replicate l.length 0) := ⟨_, rfl⟩
  have A0 := hid ((All.came w).addBlk R0 25)
  have mk : ∀ W : World, (Instr.makeSlice 39 (.int .i64 (l.length : Int)) (.int .i64 (l.length : Int))).run Try.prog W = .ok (.slice (some ⟨W.heap.size, 0, none⟩) l.length l.length) (W.alloc (.cells R0.toArray 25)) := fun W => by
    have := make_flts (w := W) l.length (by omega)
    rw [this, hR0]
    simp
  have HR0 := hid hR0
  clear h hp ha ha0 ha1 hx hs hR0
  go_enter Try.func21, Try.ntmps21
  go_wp2_with fail
  refine cp.mono ?_
  rintro e w1 ⟨rfl, rfl⟩
  go_wp2
  have A1 : All [blkC w1.heap.size (flts (smP x l 0)) 25, inC w1] (w1.alloc (.cells R0.toArray 25)) := by
    rw [smP_zero, ← HR0.out]; exact A0.out
  have A1 := hid A1
  clear A0 HR0 mk
  generalize w1.heap.size = H at A1 ⊢
  generalize w1.alloc (.cells R0.toArray 25) = w2 at A1 ⊢
  go_loopw [24] (fun s wr => ∃ k : Nat, k ≤ l.length ∧ s = .int .i64 (k : Int) ∧ All [blkC H (flts (smP x l k)) 25, inC w1] wr) (fun s _ => l.length - (intOf s).toNat)
  case atStart => exact ⟨0, Nat.zero_le _, rfl, A1.out⟩
  case round =>
    obtain ⟨k, hkl, rfl, hA⟩ := hrel
    have HA := hid hA
    clear hA
    have hbw := inC_of (w := w1) HA.out (by simp)
    have hB : wr.heap[H]? = some (.cells (flts (smP x l k)).toArray 25 (0, 0)) := HA.out.1.2.1
    by_cases hlt2 : k < l.length
    · obtain ⟨y, hy⟩ : ∃ y, l[k]? = some y := ⟨_, List.getElem?_eq_getElem hlt2⟩
      obtain ⟨g, off, rfl, hg, cx⟩ := H1.out.at hy
      have cx2 : wr.cell? ⟨g, off + k, none⟩ = some (.int .i64 y) := (hbw.cell (p := ⟨g, off + k, none⟩) hg).trans cx
      have cell0 : wr.cell? ⟨H, k, none⟩ = some (.float .f64 0) := by
        rw [cell_at hB]
        simp [smP_at x l hlt2]
      have fr0 : wr.frozen? ⟨H, k, none⟩ = false := free_at hB k
      have hset := hid (smP_set x l hlt2)
      rcases Nat.eq_zero_or_pos k with hk0 | hk0
      · have hz : smN x l k = Flt.fx y := by subst hk0; show Flt.fx (l.getD 0 0) = _; simp [List.getD, hy]
        have hset := hid (show smP x l (k + 1) = (smP x l k).set k (floatOfInt .f64 y) by rw [hset.out, hz]; rfl)
        have hk1 : ((k : Int) == 0) = true := by simp [hk0]
        have HK0 := hid hk0
        clear hbw hB cx hy hz hk0
        go_wp2
        exact ⟨⟨k + 1, by omega, rfl, by
          have := HA.out.setBlk k (.float .f64 (floatOfInt .f64 y))
          rw [hset.out]
          simpa [flts, List.map_set] using this⟩, by simp [intOf]; omega⟩
      · obtain ⟨j, hj⟩ : ∃ j, Hid (k = j + 1) := ⟨k - 1, hid (by omega)⟩
        have hs := HS.out j y (by rw [← hj.out]; exact hy)
        have hjl : j < l.length := by have := hj.out; omega
        have cell1 : wr.cell? ⟨H, j, none⟩ = some (.float .f64 (smN x l j)) := by
          rw [cell_at hB]
          have : j < k := by have := hj.out; omega
          simp [smP_at x l hjl, this]
        rw [← hj.out] at hs
        have wk : IntKind.i64.wrap ((k : Int) - 1) = (j : Int) := by
          have := hj.out
          rw [show (k : Int) - 1 = (j : Int) by omega]
          exact i64_wrap_nat (by omega)
        have wk1 : (k : Int) - 1 = (j : Int) := by have := hj.out; omega
        generalize smN x l k = N at hs hset
        generalize smN x l j = M at hs cell1
        have r0 : ∀ W, (binOp .sub 25 (.float .f64 (floatOfInt .f64 y)) (.float .f64 M)).run Try.prog W = .ok (.float .f64 (fsub (Flt.fx y) M)) W := fun W => run_fsub W 25 hs.1
        generalize fsub (Flt.fx y) M = D at hs r0
        have r1 : ∀ W, (binOp .mul 25 (.float .f64 x) (.float .f64 D)).run Try.prog W = .ok (.float .f64 (fmul x D)) W := fun W => run_fmul W 25 hs.2.1
        have r2 : ∀ W, (binOp .add 25 (.float .f64 M) (.float .f64 (fmul x D))).run Try.prog W = .ok (.float .f64 N) W := fun W => run_fadd W 25 hs.2.2
        have hk1 : ((k : Int) == 0) = false := by
          rw [beq_eq_false_iff_ne]; omega
        have wk2 := hid wk1
        clear hbw hB cx hy hs wk1
        go_wp2
        exact ⟨⟨k + 1, by omega, rfl, by
          have := HA.out.setBlk k (.float .f64 N)
          rw [hset.out]
          simpa [flts, List.map_set] using this⟩, by simp [intOf]; omega⟩
    · obtain rfl : k = l.length := by omega
      rw [smP_all] at HA
      clear hB hbw
      go_wp2
      go_ret2
      refine ⟨_, rfl, ?_⟩
      have := own_of_blkF HA.out (flts_one _) (by rw [List.length_map, smL_len]; unfold maxLen; omega)
      rwa [List.length_map, smL_len] at this
end Go.Proofs.Ytkaigmoeagjjgaa

import Derived.Test.YtkaigmoeagjjgaaTot
namespace Go.Proofs.Ytkaigmoeagjjgaa
open Go.RowKit
attribute [local go_sem] run_store_float
set_option linter.unusedVariables false

theorem rOf_bad {w : World} {v : Value} {l : List Int} (h : IntsAt w v l) (hb : 4096 < l.length ∨ l.length = 0) : Calls Try.prog 12 #[v] w fun e w' => e = .returned (.tuple #[.agg #[.int .i64 0, .int .i64 0, .int .i64 0, .float .f64 0, .float .f64 0], .int .i64 (ofE l.length)]) ∧ Below w.heap.size w w' := by
  obtain ⟨ao, c, rfl⟩ := h.form
  by_cases h1 : 4096 < l.length
  · have e : ofE l.length = 220 := by unfold ofE; rw [if_pos h1]
    rw [e]
    clear h hb e
    go_enter Try.func12, Try.ntmps12
    go_wp2
    refine bodyPost_ret (v := .tuple #[.agg #[.int .i64 0, .int .i64 0, .int .i64 0, .float .f64 0, .float .f64 0], .int .i64 220]) ?_ rfl ?_
    · simp only [results, show Try.f12.results = #[.cell 2 27, .tmp 3] from rfl]
      go_simp
    · exact ⟨rfl, (Below.refl _ w).alloc (Nat.le_refl _) _⟩
  · have h0 : l.length = 0 := by omega
    have e : ofE l.length = 222 := by unfold ofE; rw [if_neg h1, if_pos h0]
    rw [e, h0]
    clear h hb e h0 h1
    go_enter Try.func12, Try.ntmps12
    go_wp2
    refine bodyPost_ret (v := .tuple #[.agg #[.int .i64 0, .int .i64 0, .int .i64 0, .float .f64 0, .float .f64 0], .int .i64 222]) ?_ rfl ?_
    · simp only [results, show Try.f12.results = #[.cell 2 27, .tmp 3] from rfl]
      go_simp
    · exact ⟨rfl, (Below.refl _ w).alloc (Nat.le_refl _) _⟩

def fmin (l : List Int) (k : Nat) : Int := minI (l.take (max k 1))
def fmax (l : List Int) (k : Nat) : Int := maxI (l.take (max k 1))
theorem fmin_succ {l : List Int} {k : Nat} {x : Int} (hx : l[k]? = some x) : fmin l (k + 1) = if x < fmin l k then x else fmin l k := by
  unfold fmin
  rw [show max (k + 1) 1 = k + 1 by omega, take_snoc hx]
  by_cases h : k = 0
  · subst h
    rw [show max 0 1 = 1 from rfl, minI_one hx, List.take_zero]
    simp [minI]
  · rw [show max k 1 = k by omega, minI_snoc (by have := (List.getElem?_eq_some_iff.1 hx).1; rw [List.length_take]; omega)]
theorem fmax_succ {l : List Int} {k : Nat} {x : Int} (hx : l[k]? = some x) : fmax l (k + 1) = if fmax l k < x then x else fmax l k := by
  unfold fmax
  rw [show max (k + 1) 1 = k + 1 by omega, take_snoc hx]
  by_cases h : k = 0
  · subst h
    rw [show max 0 1 = 1 from rfl, maxI_one hx, List.take_zero]
    simp [maxI]
  · rw [show max k 1 = k by omega, maxI_snoc (by have := (List.getElem?_eq_some_iff.1 hx).1; rw [List.length_take]; omega)]

abbrev Zc : List Value := [.int .i64 0, .int .i64 0, .int .i64 0, .float .f64 0, .float .f64 0]
theorem facts_M {w W : World} {M R : Nat} {n b c : Int} {d e : Nat} (h : All [blkC M [.int .i64 n, .int .i64 b, .int .i64 c, .float .f64 d, .float .f64 e] 27, blkC R Zc 27, inC w] W) :
    (W.cell? ⟨M, 1, none⟩ = some (.int .i64 b) ∧ W.cell? ⟨M, 2, none⟩ = some (.int .i64 c) ∧ W.cell? ⟨M, 3, none⟩ = some (.float .f64 d) ∧ W.cell? ⟨M, 4, none⟩ = some (.float .f64 e)) ∧ (W.frozen? ⟨M, 1, none⟩ = false ∧ W.frozen? ⟨M, 2, none⟩ = false ∧ W.frozen? ⟨M, 3, none⟩ = false ∧ W.frozen? ⟨M, 4, none⟩ = false) ∧ Below w.heap.size w W := by
  have hB : W.heap[M]? = some (.cells #[.int .i64 n, .int .i64 b, .int .i64 c, .float .f64 d, .float .f64 e] 27 (0, 0)) := h.1.2.1
  exact ⟨⟨by rw [cell_at hB]; rfl, by rw [cell_at hB]; rfl, by rw [cell_at hB]; rfl, by rw [cell_at hB]; rfl⟩, ⟨free_at hB 1, free_at hB 2, free_at hB 3, free_at hB 4⟩, inC_of h (by simp)⟩
set_option maxHeartbeats 4000000 in
theorem rOf_ok {w : World} {v : Value} {l : List Int} (h : IntsAt w v l) (hs : Sm l) (h0 : 0 < l.length) (hn : l.length ≤ 4096) : Calls Try.prog 12 #[v] w fun e w' => e = .returned (.tuple #[.agg #[.int .i64 l.length, .int .i64 (minI l), .int .i64 (maxI l), .float .f64 (meanF l), .float .f64 (devF l (meanF l))], .int .i64 0]) ∧ Below w.heap.size w w' := by
  obtain ⟨ao, c, rfl⟩ := h.form
  obtain ⟨hc, _⟩ := h.cap
  obtain ⟨ME, hME⟩ : ∃ x, Hid (x = meanF l) := ⟨_, rfl⟩
  obtain ⟨DV, hDV⟩ : ∃ x, Hid (x = devF l ME) := ⟨_, rfl⟩
  obtain ⟨mn0, hMN⟩ : ∃ x, Hid (x = minI l) := ⟨_, rfl⟩
  obtain ⟨mx0, hMX⟩ : ∃ x, Hid (x = maxI l) := ⟨_, rfl⟩
  rw [← hME.out, ← hDV.out, ← hMN.out, ← hMX.out]
  have A0 := hid ((All.came w).addBlk [.int .i64 0, .int .i64 0, .int .i64 0, .float .f64 0, .float .f64 0] 27)
  obtain ⟨x0, hx0⟩ : ∃ x, l[0]? = some x := ⟨_, List.getElem?_eq_getElem h0⟩
  obtain ⟨g, off, rfl, hg, cx⟩ := h.at hx0
  rw [Nat.add_zero] at cx
  obtain ⟨wa, hwa⟩ : ∃ wa, Hid (wa = w.alloc (.cells #[.int .i64 0, .int .i64 0, .int .i64 0, .float .f64 0, .float .f64 0] 27)) := ⟨_, rfl⟩
  have hbA : Below w.heap.size w wa := by rw [hwa.out]; exact ba w _
  have c1 : wa.cell? ⟨g, off, none⟩ = some (.int .i64 x0) := (hbA.cell (p := ⟨g, off, none⟩) hg).trans cx
  have hgA : g < wa.heap.size := Nat.lt_of_lt_of_le hg hbA.size
  have HS := hid hs
  have H1 := hid h
  have HX := hid hx0
  clear hs h hx0 cx
  go_enter Try.func12, Try.ntmps12
  go_upto_region 5 with fail
  rw [← hwa.out]
  have A0' : All [blkC w.heap.size [.int .i64 0, .int .i64 0, .int .i64 0, .float .f64 0, .float .f64 0] 27, inC w] wa := by rw [hwa.out]; exact A0.out
  have A1 := hid A0'
  generalize w.heap.size = R at A1 ⊢
  go_region
  have hm0 : fmin l 0 = x0 := minI_one HX.out
  have hM0 : fmax l 0 = x0 := maxI_one HX.out
  have A2 := hid ((A1.out.addBlk [.int .i64 (l.length : Int), .int .i64 (fmin l 0), .int .i64 (fmax l 0), .float .f64 0, .float .f64 0] 27).drew)
  rw [hm0, hM0] at A2
  generalize hM : wa.heap.size = M at A2 ⊢
  change Hid (All _ (wa.alloc (.cells #[.int .i64 (l.length : Int), .int .i64 x0, .int .i64 x0, .float .f64 0, .float .f64 0] 27)).drew) at A2
  generalize (wa.alloc (.cells #[.int .i64 (l.length : Int), .int .i64 x0, .int .i64 x0, .float .f64 0, .float .f64 0] 27)).drew = w2 at A2 ⊢
  clear c1 hgA hbA hwa A0 A0' A1 hM
  have HH := hid (And.intro hm0 hM0)
  clear hm0 hM0
  go_wp2
  go_loopw [5, 6] (fun s i wr => ∃ k : Nat, k ≤ l.length ∧ s = .float .f64 (sumF (l.take k)) ∧ i = .int .i64 (k : Int) ∧ All [blkC M [.int .i64 (l.length : Int), .int .i64 (fmin l k), .int .i64 (fmax l k), .float .f64 0, .float .f64 0] 27, blkC R [.int .i64 0, .int .i64 0, .int .i64 0, .float .f64 0, .float .f64 0] 27, inC w] wr) (fun _ i _ => l.length - (intOf i).toNat)
  case atStart => exact ⟨0, Nat.zero_le _, rfl, rfl, by rw [HH.out.1, HH.out.2]; exact A2.out⟩
  case round =>
    obtain ⟨k, hk, rfl, rfl, hA⟩ := hrel
    have HA := hid hA
    clear hA
    obtain ⟨⟨m1, m2, m3, m4⟩, ⟨f1, f2, f3, f4⟩, hbw⟩ := facts_M HA.out
    by_cases hlt : k < l.length
    · obtain ⟨x, hx⟩ : ∃ x, l[k]? = some x := ⟨_, List.getElem?_eq_getElem hlt⟩
      obtain ⟨b', off', e, hb', cx⟩ := H1.out.at hx
      simp only [Option.some.injEq, Addr.mk.injEq, and_true] at e
      obtain ⟨rfl, rfl⟩ := e
      have HC := hid (fun (W : World) (hW : Below w.heap.size w W) => (hW.cell (p := ⟨g, off + k, none⟩) hg).trans cx)
      have cx2 := HC.out wr hbw
      have ha := (add_some (sumF_nn _ (HS.out.take k)) (fx_fn (HS.out.abs (List.mem_of_getElem? hx)))).1
      have hsn := hid (show sumF (l.take (k + 1)) = fadd (sumF (l.take k)) (Flt.fx x) by rw [take_snoc hx, sumF_snoc])
      have hmn := hid (fmin_succ hx)
      have hmx := hid (fmax_succ hx)
      have r1 : ∀ W, (binOp .add 25 (.float .f64 (sumF (l.take k))) (.float .f64 (floatOfInt .f64 x))).run Try.prog W = .ok (.float .f64 (fadd (sumF (l.take k)) (Flt.fx x))) W := fun W => run_fadd W 25 ha
      generalize sumF (l.take k) = S at hsn r1 ⊢
      generalize fmin l k = mn at hmn m1 HA
      generalize fmax l k = mx at hmx m2 HA
      clear ha hx cx hbw m3 m4 f3 f4
      -- what stands ahead of the second comparison
      by_cases d1 : x < mn
      · have e1 : decide (x < mn) = true := decide_eq_true d1
        rw [if_pos d1] at hmn
        clear d1
        go_upto_region 10 with fail
        go_region
        have A3 := hid ((HA.out.setBlk 1 (.int .i64 x)).drew)
        obtain ⟨⟨p1, p2, _, _⟩, ⟨q1, q2, _, _⟩, hb3⟩ := facts_M A3.out
        have cx3 := HC.out _ hb3
        clear m2
        by_cases d2 : mx < x
        · have e2 : decide (mx < x) = true := decide_eq_true d2
          rw [if_pos d2] at hmx
          clear d2
          go_upto_region 12 with fail
          generalize (wr.setCell ⟨M, 1, none⟩ (.int .i64 x)).drew = w3 at A3 p1 p2 q1 q2 hb3 cx3 ⊢
          go_region
          have A4 := hid ((A3.out.setBlk 2 (.int .i64 x)).drew)
          have cx4 := HC.out _ (inC_of (w := w) A4.out (by simp))
          go_wp2
          exact ⟨⟨k + 1, by omega, by rw [hsn.out], rfl, by rw [hmn.out, hmx.out]; exact A4.out⟩, by simp [intOf]; omega⟩
        · have e2 : decide (mx < x) = false := decide_eq_false d2
          rw [if_neg d2] at hmx
          clear d2
          go_upto_region 12 with fail
          generalize (wr.setCell ⟨M, 1, none⟩ (.int .i64 x)).drew = w3 at A3 p1 p2 q1 q2 hb3 cx3 ⊢
          go_region
          go_wp2
          exact ⟨⟨k + 1, by omega, by rw [hsn.out], rfl, by rw [hmn.out, hmx.out]; exact A3.out.drew⟩, by simp [intOf]; omega⟩
      · have e1 : decide (x < mn) = false := decide_eq_false d1
        rw [if_neg d1] at hmn
        clear d1
        go_upto_region 10 with fail
        go_region
        have A3 := hid HA.out.drew
        obtain ⟨⟨p1, p2, _, _⟩, ⟨q1, q2, _, _⟩, hb3⟩ := facts_M A3.out
        have cx3 := HC.out _ hb3
        clear m1 m2 cx2
        by_cases d2 : mx < x
        · have e2 : decide (mx < x) = true := decide_eq_true d2
          rw [if_pos d2] at hmx
          clear d2
          go_upto_region 12 with fail
          generalize wr.drew = w3 at A3 p1 p2 q1 q2 hb3 cx3 ⊢
          go_region
          have A4 := hid ((A3.out.setBlk 2 (.int .i64 x)).drew)
          have cx4 := HC.out _ (inC_of (w := w) A4.out (by simp))
          go_wp2
          exact ⟨⟨k + 1, by omega, by rw [hsn.out], rfl, by rw [hmn.out, hmx.out]; exact A4.out⟩, by simp [intOf]; omega⟩
        · have e2 : decide (mx < x) = false := decide_eq_false d2
          rw [if_neg d2] at hmx
          clear d2
          go_upto_region 12 with fail
          generalize wr.drew = w3 at A3 p1 p2 q1 q2 hb3 cx3 ⊢
          go_region
          go_wp2
          exact ⟨⟨k + 1, by omega, by rw [hsn.out], rfl, by rw [hmn.out, hmx.out]; exact A3.out.drew⟩, by simp [intOf]; omega⟩
    · obtain rfl : k = l.length := by omega
      rw [List.take_length]
      have hmF : fmin l l.length = mn0 := by rw [hMN.out]; unfold fmin; rw [show max l.length 1 = l.length by omega, List.take_length]
      have hMF : fmax l l.length = mx0 := by rw [hMX.out]; unfold fmax; rw [show max l.length 1 = l.length by omega, List.take_length]
      rw [hmF, hMF] at HA
      have hd := (div_some (sumF_nn l HS.out) h0 hn).1
      have r1 : ∀ W, (binOp .quo 25 (.float .f64 (sumF l)) (.float .f64 (floatOfInt .f64 (l.length : Int)))).run Try.prog W = .ok (.float .f64 ME) W := fun W => by rw [hME.out]; exact run_fdiv W 25 hd
      have hmn : Flt.NN ME := by rw [hME.out]; exact mean_nn HS.out h0 hn
      have A3 := hid (HA.out.setBlk 3 (.float .f64 ME))
      clear hmF hMF hd m1 m2 m4 f1 f2 f4 hlt hk hbw HH A2
      have HM := hid hmn
      clear hmn
      have A3' : All [blkC M [.int .i64 (l.length : Int), .int .i64 mn0, .int .i64 mx0, .float .f64 ME, .float .f64 0] 27, blkC R Zc 27, inC w] (wr.setCell ⟨M, 3, none⟩ (.float .f64 ME)) := A3.out
      have A3 := hid A3'
      clear A3'
      go_wp2
      obtain ⟨w3, hw3⟩ : ∃ w3, w3 = wr.setCell ⟨M, 3, none⟩ (.float .f64 ME) := ⟨_, rfl⟩
      rw [← hw3] at A3 ⊢
      clear hw3
      clear HA r1 f3 m3 HX hc
      go_loopw [8, 9] (fun s i wx => ∃ k q : Nat, k ≤ l.length ∧ s = .float .f64 (devS (l.take k) ME) ∧ i = .int .i64 (k : Int) ∧ wx = w3.drewN q) (fun _ i _ => l.length - (intOf i).toNat)
      case atStart => exact ⟨0, 0, Nat.zero_le _, rfl, rfl, rfl⟩
      case round =>
        obtain ⟨k, q, hk, rfl, rfl, rfl⟩ := hrel
        obtain ⟨⟨_, _, m3, m4⟩, ⟨_, _, _, f4⟩, hbw⟩ := facts_M A3.out
        by_cases hlt : k < l.length
        · obtain ⟨x, hx⟩ : ∃ x, l[k]? = some x := ⟨_, List.getElem?_eq_getElem hlt⟩
          obtain ⟨b', off', e, hb', cx⟩ := H1.out.at hx
          simp only [Option.some.injEq, Addr.mk.injEq, and_true] at e
          obtain ⟨rfl, rfl⟩ := e
          have cx2 := (hbw.cell (p := ⟨g, off + k, none⟩) hg).trans cx
          have hsb := sub_some (fx_fn (HS.out.abs (List.mem_of_getElem? hx))) HM.out
          have hsq := sq_some hsb.2
          have ha := addp_some (devS_pos _ ME HM.out (HS.out.take k)) hsq.2
          have hsn := hid (show devS (l.take (k + 1)) ME = _ by rw [take_snoc hx, devS_snoc])
          have r0 : ∀ W, (binOp .sub 25 (.float .f64 (floatOfInt .f64 x)) (.float .f64 ME)).run Try.prog W = .ok (.float .f64 (fsub (Flt.fx x) ME)) W := fun W => run_fsub W 25 hsb.1
          generalize fsub (Flt.fx x) ME = D at hsq ha hsn r0
          have r2 : ∀ W, (binOp .mul 25 (.float .f64 D) (.float .f64 D)).run Try.prog W = .ok (.float .f64 (fmul D D)) W := fun W => run_fmul W 25 hsq.1
          have r3 : ∀ W, (binOp .add 25 (.float .f64 (devS (l.take k) ME)) (.float .f64 (fmul D D))).run Try.prog W = .ok (.float .f64 (fadd (devS (l.take k) ME) (fmul D D))) W := fun W => run_fadd W 25 ha.1
          generalize devS (l.take k) ME = S at hsn r3 ⊢
          clear ha hx hsb hsq cx hbw
          go_upto_region 21 with fail
          go_region
          go_wp2
          exact ⟨⟨k + 1, q + 1, by omega, by rw [hsn.out], rfl, rfl⟩, by simp [intOf]; omega⟩
        · obtain rfl : k = l.length := by omega
          rw [List.take_length]
          have hp := devS_pos l ME HM.out HS.out
          have hd := div_some hp.nn h0 hn
          have hq := hid (sqr_some (hd.2.2 hp)).1
          have r4 : ∀ W, (binOp .quo 25 (.float .f64 (devS l ME)) (.float .f64 (floatOfInt .f64 (l.length : Int)))).run Try.prog W = .ok (.float .f64 (fdiv (devS l ME) (Flt.fx l.length))) W := fun W => run_fdiv W 25 hd.1
          have hdev : DV = fsqr (fdiv (devS l ME) (Flt.fx l.length)) := hDV.out
          clear hp hd m3
          generalize fdiv (devS l ME) (Flt.fx l.length) = QQ at hq r4 hdev
          rw [← hdev] at hq
          clear hdev
          have sq := fun W => sqrt_run (w := W) hq.out
          have A4 := hid ((A3.out.drewN q).setBlk 4 (.float .f64 DV))
          have m4' : (w3.drewN q).cell? ⟨M, 4, none⟩ = some (.float .f64 0) := m4
          have f4' : (w3.drewN q).frozen? ⟨M, 4, none⟩ = false := f4
          clear hlt hk f4 m4
          generalize w3.drewN q = w5 at A4 f4' m4' hbw ⊢
          go_wp2_with fail
          refine (sq _).mono ?_
          rintro e w6 ⟨rfl, rfl⟩
          have A5 : All [blkC M [.int .i64 (l.length : Int), .int .i64 mn0, .int .i64 mx0, .float .f64 ME, .float .f64 DV] 27, blkC R Zc 27, inC w] (w6.setCell ⟨M, 4, none⟩ (.float .f64 DV)) := A4.out
          have A5 := hid A5
          clear A4
          go_upto_region 25 with fail
          generalize w6.setCell ⟨M, 4, none⟩ (.float .f64 DV) = w7 at A5 ⊢
          have hB : w7.heap[M]? = some (.cells #[.int .i64 (l.length : Int), .int .i64 mn0, .int .i64 mx0, .float .f64 ME, .float .f64 DV] 27 (0, 0)) := A5.out.1.2.1
          have hR : w7.heap[R]? = some (.cells #[.int .i64 0, .int .i64 0, .int .i64 0, .float .f64 0, .float .f64 0] 27 (0, 0)) := A5.out.2.2.1.2.1
          have c0 : w7.cell? ⟨M, 0, none⟩ = some (.int .i64 (l.length : Int)) := by rw [cell_at hB]; rfl
          have c1 : w7.cell? ⟨M, 1, none⟩ = some (.int .i64 mn0) := by rw [cell_at hB]; rfl
          have c2 : w7.cell? ⟨M, 2, none⟩ = some (.int .i64 mx0) := by rw [cell_at hB]; rfl
          have c3 : w7.cell? ⟨M, 3, none⟩ = some (.float .f64 ME) := by rw [cell_at hB]; rfl
          have c4 : w7.cell? ⟨M, 4, none⟩ = some (.float .f64 DV) := by rw [cell_at hB]; rfl
          have d0 : w7.cell? ⟨R, 0, none⟩ = some (.int .i64 0) := by rw [cell_at hR]; rfl
          have d1 : w7.cell? ⟨R, 1, none⟩ = some (.int .i64 0) := by rw [cell_at hR]; rfl
          have d2 : w7.cell? ⟨R, 2, none⟩ = some (.int .i64 0) := by rw [cell_at hR]; rfl
          have d3 : w7.cell? ⟨R, 3, none⟩ = some (.float .f64 0) := by rw [cell_at hR]; rfl
          have d4 : w7.cell? ⟨R, 4, none⟩ = some (.float .f64 0) := by rw [cell_at hR]; rfl
          have e0 := free_at hR 0
          have e1 := free_at hR 1
          have e2 := free_at hR 2
          have e3 := free_at hR 3
          have e4 := free_at hR 4
          have A6 := hid (((((A5.out.swap.setBlk 0 (.int .i64 (l.length : Int))).setBlk 1 (.int .i64 mn0)).setBlk 2 (.int .i64 mx0)).setBlk 3 (.float .f64 ME)).setBlk 4 (.float .f64 DV))
          clear hB hR A5 m4' f4' hq sq r4 hbw H1 HS HM A3
          go_wp2
          generalize ((((w7.setCell ⟨R, 0, none⟩ (.int .i64 (l.length : Int))).setCell ⟨R, 1, none⟩ (.int .i64 mn0)).setCell ⟨R, 2, none⟩ (.int .i64 mx0)).setCell ⟨R, 3, none⟩ (.float .f64 ME)).setCell ⟨R, 4, none⟩ (.float .f64 DV) = w8 at A6 ⊢
          have hR : w8.heap[R]? = some (.cells #[.int .i64 (l.length : Int), .int .i64 mn0, .int .i64 mx0, .float .f64 ME, .float .f64 DV] 27 (0, 0)) := A6.out.1.2.1
          have hb8 := inC_of (w := w) A6.out (by simp)
          have k0 : w8.cell? ⟨R, 0, none⟩ = some (.int .i64 (l.length : Int)) := by rw [cell_at hR]; rfl
          have k1 : w8.cell? ⟨R, 1, none⟩ = some (.int .i64 mn0) := by rw [cell_at hR]; rfl
          have k2 : w8.cell? ⟨R, 2, none⟩ = some (.int .i64 mx0) := by rw [cell_at hR]; rfl
          have k3 : w8.cell? ⟨R, 3, none⟩ = some (.float .f64 ME) := by rw [cell_at hR]; rfl
          have k4 : w8.cell? ⟨R, 4, none⟩ = some (.float .f64 DV) := by rw [cell_at hR]; rfl
          clear A6 hR c0 c1 c2 c3 c4 d0 d1 d2 d3 d4 e0 e1 e2 e3 e4
          refine bodyPost_ret (v := .tuple #[.agg #[.int .i64 (l.length : Int), .int .i64 mn0, .int .i64 mx0, .float .f64 ME, .float .f64 DV], .int .i64 0]) ?_ rfl ?_
          · simp only [results, show Try.f12.results = #[.cell 2 27, .tmp 3] from rfl]
            go_simp
          · exact ⟨rfl, hb8⟩
end Go.Proofs.Ytkaigmoeagjjgaa

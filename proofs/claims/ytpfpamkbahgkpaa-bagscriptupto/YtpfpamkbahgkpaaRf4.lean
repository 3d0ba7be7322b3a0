import Derived.Test.YtpfpamkbahgkpaaRf3
namespace Go.Proofs.Ytpfpamkbahgkpaa
open Go.RowKit
set_option linter.unusedVariables false

/-- What is met at a bag of the document. -/
theorem doc_pre {B : Bg} {cs : List Comp} {w : World} (h : All (B.M ++ cs) w) : ∃ ao c, B.v = .slice ao B.ps.length c ∧ w.cell? ⟨B.b, 0, none⟩ = some (.int .i64 B.r) ∧ w.cell? ⟨B.b, 1, none⟩ = some (.int .i64 B.l) ∧ w.cell? ⟨B.b, 2, none⟩ = some (.slice ao B.ps.length c) := by
  obtain ⟨ao', c', hv, hc⟩ := h.docForm
  have hb := All.docBlk (cs := []) h
  rw [hv] at hb
  exact ⟨ao', c', hv, by rw [cell_at hb]; rfl, by rw [cell_at hb]; rfl, by rw [cell_at hb]; rfl⟩
theorem has_no {k : Int} {n : Nat} (h : hasB k n = false) : k < 0 ∨ (n : Int) ≤ k := by
  have : ¬ (0 ≤ k ∧ k < n) := of_decide_eq_false h
  omega

set_option maxRecDepth 1000000 in
theorem rDup_no {B : Bg} {k : Int} {cs : List Comp} {w : World} (h : All (B.M ++ cs) w) (hn : B.ps.length ≤ 1024) (hk : hasB k B.ps.length = false) : Calls Try.prog 36 #[B.V, .int .i64 k] w fun e w' => e = .returned (.int .i64 152) ∧ w' = w := by
  obtain ⟨ao, c, hv, t0, t1, t2⟩ := doc_pre h
  have hk2 := has_no hk
  clear h hv hk
  obtain ⟨b, r, l, v, ps⟩ := B
  simp only at hn hk2 t0 t1 t2
  show Calls Try.prog 36 #[.pointer (some ⟨b, 0, none⟩), .int .i64 k] w _
  generalize ps.length = m at *
  by_cases h0 : k < 0
  · clear hk2
    go_enter Try.func36, Try.ntmps36
    go_wp2
    go_ret
    exact ⟨rfl, rfl⟩
  · have h1 : (m : Int) ≤ k := by omega
    clear hk2
    go_enter Try.func36, Try.ntmps36
    go_wp2
    go_ret
    exact ⟨rfl, rfl⟩
set_option maxRecDepth 1000000 in
theorem rDup_full {B : Bg} {k : Int} {cs : List Comp} {w : World} (h : All (B.M ++ cs) w) (hn : B.ps.length ≤ 1024) (hk : 0 ≤ k ∧ k < B.ps.length) (hf : B.r ≤ (B.ps.length : Int)) : Calls Try.prog 36 #[B.V, .int .i64 k] w fun e w' => e = .returned (.int .i64 155) ∧ ∃ q, w' = w.drewN q := by
  obtain ⟨ao, c, hv, t0, t1, t2⟩ := doc_pre h
  clear h hv
  obtain ⟨b, r, l, v, ps⟩ := B
  simp only at hn hk hf t0 t1 t2
  show Calls Try.prog 36 #[.pointer (some ⟨b, 0, none⟩), .int .i64 k] w _
  generalize ps.length = m at *
  have h0 : ¬ k < 0 := by omega
  have h1 : ¬ (m : Int) ≤ k := by omega
  go_enter Try.func36, Try.ntmps36
  go_wp2
  go_region
  all_goals (go_wp2; go_ret; exact ⟨rfl, 1, rfl⟩)
set_option maxHeartbeats 800000 in
set_option maxRecDepth 1000000 in
theorem rDup_ok {B : Bg} {i : Nat} {p : Pk} {P : List (Value × List UInt8)} {cs : List Comp} {w : World} (h : All (poolC P :: (B.M ++ cs)) w) (hn : B.ps.length ≤ 1024) (h0 : 0 ≤ B.l) (hl : B.l < 4611686018427387904) (hp : B.ps[i]? = some p) (hm : (p.D, p.bs) ∈ P) (hpl : p.bs.length ≤ 140737488355328) (hf : ¬ B.r ≤ (B.ps.length : Int)) :
    Calls Try.prog 36 #[B.V, .int .i64 (i : Int)] w fun e w' => e = .returned (.int .i64 0) ∧ ∃ v a2 c2, All (poolC (((p.to a2 c2).D, p.bs) :: P) :: ((B.lay (p.to a2 c2) v).M ++ cs)) w' := by
  have hi : i < B.ps.length := (List.getElem?_eq_some_iff.1 hp).1
  obtain ⟨g, c, hv, hg, hrg, _⟩ := row_at (All.docRow (cs := [poolC P]) h) hp
  obtain ⟨ao', c', hv', t0, t1, t2⟩ := doc_pre h.tail
  rw [hv] at hv'
  simp only [Value.slice.injEq, true_and] at hv'
  obtain ⟨rfl, rfl⟩ := hv'
  have F := hid (rlay_any (p := p) h.drew (fun X W A => A.poolReads (P := P) (by simp) hm) hpl h0 hl hn)
  obtain ⟨s1, s2, s3, s4, s5, s6⟩ := pkAt_of hrg
  clear h hv hp hrg hm h0 hl
  obtain ⟨b, r, la, v, ps⟩ := B
  simp only at hn hf hi t0 t1 t2
  have F : Hid (Calls Try.prog 54 #[.pointer (some ⟨b, 0, none⟩), .agg #[.int .i64 p.n, .int .i64 p.f, .int .i64 p.t, .int .i64 p.a, .int .i64 p.u, .slice p.ao p.bs.length p.c]] w.drew _) := F
  show Calls Try.prog 36 #[.pointer (some ⟨b, 0, none⟩), .int .i64 (i : Int)] w _
  obtain ⟨m, hm⟩ : ∃ m, Hid (m = ps.length) := ⟨_, hid rfl⟩
  rw [← hm.out] at hn hf hi t2
  have hii : (i : Int) < (m : Int) := by omega
  have h0' : ¬ (i : Int) < 0 := by omega
  have h1' : ¬ (m : Int) ≤ (i : Int) := by omega
  go_enter Try.func36, Try.ntmps36
  go_wp2
  go_region
  all_goals (go_wp2_with (first | (go_at_call 54; refine F.out.mono ?_; rintro e w2 ⟨rfl, v2, a2, c2, A2⟩; have A2 := hid A2)))
  all_goals (go_ret; exact ⟨rfl, v2, a2, c2, A2.out⟩)
/-- Dup, by the document. -/
theorem rDup_any {B : Bg} {j : Int} {P : List (Value × List UInt8)} {cs : List Comp} {w : World} (h : All (poolC P :: (B.M ++ cs)) w) (hi : B.In P) {k : Nat} (ho : B.ab.Ok k) (hk : k < 4611686018427387904) :
    Calls Try.prog 36 #[B.V, .int .i64 j] w fun e w' => e = .returned (.int .i64 (B.ab.dupE j)) ∧ B.Tm (B.ab.dup j) P cs w' := by
  have hn : B.ps.length ≤ 1024 := by rw [← B.ab_len]; exact ho.small
  have hlen : (B.ps.length : Int) ≤ B.r := by have := ho.len; rw [B.ab_len, B.ab_r] at this; exact this
  have hfl := full_le hlen
  by_cases hh : hasB j B.ps.length = false
  · have hE : B.ab.dupE j = 152 := by unfold AB.dupE; rw [B.ab_len, if_pos hh]
    refine (rDup_no h.tail hn hh).mono ?_
    rintro e w' ⟨rfl, rfl⟩
    exact ⟨by rw [hE], P, B, rfl, by unfold AB.dup; rw [hE]; rfl, hi, fun e h => h, h⟩
  · have hh' : hasB j B.ps.length = true := by simpa using hh
    by_cases hf : fullB B.ps.length B.r = true
    · have hE : B.ab.dupE j = 155 := by unfold AB.dupE; rw [B.ab_len, B.ab_r, if_neg hh, if_pos hf]
      refine (rDup_full h.tail hn (of_decide_eq_true hh') (of_decide_eq_true (hfl.trans hf))).mono ?_
      rintro e w' ⟨rfl, q, rfl⟩
      exact ⟨by rw [hE], P, B, rfl, by unfold AB.dup; rw [hE]; rfl, hi, fun e h => h, h.drewN q⟩
    · have hE : B.ab.dupE j = 0 := by unfold AB.dupE; rw [B.ab_len, B.ab_r, if_neg hh, if_neg hf]
      have hl1 := ho.l1
      have hl0 := ho.l0
      obtain ⟨p, hp, hm, hat, hlt, hj⟩ := Bg.at_ps hh'
      generalize hjj : j.toNat = i at *
      subst hj
      refine (rDup_ok h hn hl0 (by have : B.ab.l = B.l := rfl; omega) hp (hi p hm).1 (hi p hm).2 (of_decide_eq_false (hfl.trans (by simpa using hf)))).mono ?_
      rintro e w' ⟨rfl, v, a2, c2, A⟩
      refine ⟨by rw [hE], _, B.lay (p.to a2 c2) v, rfl, ?_, ?_, fun e h => List.mem_cons_of_mem _ h, A⟩
      · unfold AB.dup
        rw [if_pos hE, Bg.ab_lay, hat, Pk.ap_to]
      · intro q hq
        simp only [Bg.lay, List.mem_append, List.mem_singleton] at hq
        rcases hq with hq | rfl
        · exact ⟨List.mem_cons_of_mem _ (hi q hq).1, (hi q hq).2⟩
        · exact ⟨List.mem_cons_self, (hi p hm).2⟩

set_option maxHeartbeats 800000 in
set_option maxRecDepth 1000000 in
theorem rAt_no {B : Bg} {k : Int} {cs : List Comp} {w : World} (h : All (B.M ++ cs) w) (hn : B.ps.length ≤ 1024) (hk : hasB k B.ps.length = false) : Calls Try.prog 42 #[B.V, .int .i64 k] w fun e w' => e = .returned (.tuple #[Pk.zero.V, .bool false]) ∧ Below w.heap.size w w' := by
  have hk2 := has_no hk
  obtain ⟨ao, c, hv, t0, t1, t2⟩ := doc_pre h
  have hbl := h.1.2.2 B.b (by simp [blkC])
  clear hk hv h
  obtain ⟨b, r, l, v, ps⟩ := B
  simp only at hn hk2 t2 t0 t1 hbl
  show Calls Try.prog 42 #[.pointer (some ⟨b, 0, none⟩), .int .i64 k] w _
  generalize ps.length = m at *
  have fin : ∀ (w9 : World), w9 = w.alloc (.cells #[.int .i64 0, .int .i64 0, .int .i64 0, .int .i64 0, .int .i64 0, .slice none 0 0] 49) → w9.heap[w.heap.size]? = some (.cells Pk.zero.cells.toArray 49 (0, 0)) ∧ Below w.heap.size w w9 := by
    rintro w9 rfl
    exact ⟨heap_alloc_new w _, ba w _⟩
  have FIN := hid fin
  clear fin
  have n1 : b ≠ w.heap.size := by omega
  by_cases h0 : k < 0
  · clear hk2
    go_enter Try.func42, Try.ntmps42
    go_wp2
    refine ret_pkB (fn := Try.f42) (b := w.heap.size) (x := Pk.zero) rfl rfl rfl (FIN.out _ rfl).1 rfl ?_
    exact ⟨rfl, (FIN.out _ rfl).2⟩
  · have h1 : (m : Int) ≤ k := by omega
    clear hk2
    go_enter Try.func42, Try.ntmps42
    go_wp2
    refine ret_pkB (fn := Try.f42) (b := w.heap.size) (x := Pk.zero) rfl rfl rfl (FIN.out _ rfl).1 rfl ?_
    exact ⟨rfl, (FIN.out _ rfl).2⟩
end Go.Proofs.Ytpfpamkbahgkpaa

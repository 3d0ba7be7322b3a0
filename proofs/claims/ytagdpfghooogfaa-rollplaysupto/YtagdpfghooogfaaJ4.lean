import Derived.Test.YtagdpfghooogfaaSet
import Derived.Deep.QuietTactic
import Derived.BigQuiet
namespace Go.Proofs.Ytagdpfghooogfaa
open Go.RowKit
set_option linter.unusedVariables false

set_option maxHeartbeats 1600000 in
set_option maxRecDepth 1000000 in
theorem set_off {g i : Nat} {n a c k : Int} {s : Value} {l : List ByteArray} {ps : List Pl} {p : Pl} {cs : List Comp} {w : World} (h : All (rollL g ps ++ cs) w) (hi : i < 8) (hp : ps[i]? = some p) (hT : Txts w s l) (hl : l.length ≤ 9223372036854775807) (hl2 : l.length ≤ 1000) (hm : may n a c k l = true) (hof : p.on = false) : Calls Try.prog 12 #[.pointer (some ⟨g, 0, none⟩), .int .i64 (i : Int), rowV n a c k s] w fun e w' => e = .returned (.int .i64 0) ∧ ∃ s', All (rollL g (ps.set i ⟨true, n, a, c, k, s', l⟩) ++ cs) w' := by
  have e : decide ((0 : Int) ≤ (i : Int) ∧ (i : Int) < 8) = true := by simp; omega
  have hI : (i : Int) < 8 := by omega
  have HA := hid h
  have HT := hid hT
  have HM := hid hm
  have HP := hid hp
  obtain ⟨ao, cp, rfl⟩ := hT.form
  clear h hT hm hp
  go_enter Try.func12, Try.ntmps12
  go_wp2_with fail
  refine (isClient_any _).mono ?_
  rintro e w1 ⟨rfl, hw1⟩
  rw [e]
  have HA1 := hid (HA.out.addBlk [.int .i64 n, .int .i64 a, .int .i64 c, .int .i64 k, .slice ao l.length cp] 39)
  have HT1 := hid (HT.out.alloc (.cells #[.int .i64 n, .int .i64 a, .int .i64 c, .int .i64 k, .slice ao l.length cp] 39))
  rw [← hw1] at HT1
  rw [show w.alloc (.cells [.int .i64 n, .int .i64 a, .int .i64 c, .int .i64 k, .slice ao l.length cp].toArray 39) = w1 from hw1.symm] at HA1
  have er : w1.heap[w.heap.size]? = some (.cells #[.int .i64 n, .int .i64 a, .int .i64 c, .int .i64 k, .slice ao l.length cp] 39 (0, 0)) := HA1.out.1.2.1
  have r0 : w1.cell? ⟨w.heap.size, 0, none⟩ = some (.int .i64 n) := by rw [cell_at er]; rfl
  have r1 : w1.cell? ⟨w.heap.size, 1, none⟩ = some (.int .i64 a) := by rw [cell_at er]; rfl
  have r2 : w1.cell? ⟨w.heap.size, 2, none⟩ = some (.int .i64 c) := by rw [cell_at er]; rfl
  have r3 : w1.cell? ⟨w.heap.size, 3, none⟩ = some (.int .i64 k) := by rw [cell_at er]; rfl
  have r4 : w1.cell? ⟨w.heap.size, 4, none⟩ = some (.slice ao l.length cp) := by rw [cell_at er]; rfl
  clear er hw1 HA HT
  go_wp2_with fail
  refine (mayBe_any n a c k HT1.out hl).mono ?_
  rw [HM.out]
  rintro e w2 ⟨rfl, B2⟩
  have HA2 := hid (HA1.out.later B2)
  have HT2 := hid (HT1.out.later B2)
  clear HA1 B2 HT1 r0 r1 r2 r3 r4 HM
  have er : w2.heap[w.heap.size]? = some (.cells #[.int .i64 n, .int .i64 a, .int .i64 c, .int .i64 k, .slice ao l.length cp] 39 (0, 0)) := HA2.out.1.2.1
  have r0 : w2.cell? ⟨w.heap.size, 0, none⟩ = some (.int .i64 n) := by rw [cell_at er]; rfl
  have r1 : w2.cell? ⟨w.heap.size, 1, none⟩ = some (.int .i64 a) := by rw [cell_at er]; rfl
  have r2 : w2.cell? ⟨w.heap.size, 2, none⟩ = some (.int .i64 c) := by rw [cell_at er]; rfl
  have r3 : w2.cell? ⟨w.heap.size, 3, none⟩ = some (.int .i64 k) := by rw [cell_at er]; rfl
  have r4 : w2.cell? ⟨w.heap.size, 4, none⟩ = some (.slice ao l.length cp) := by rw [cell_at er]; rfl
  obtain ⟨hg, hTp⟩ := HA2.out.tail.place HP.out
  obtain ⟨c0, c1, c2, c3, c4, c5⟩ := cells5 hg HP.out
  obtain ⟨aop, cpp, e5⟩ := hTp.form
  rw [e5] at c5
  have HG := hid hg
  have hgl : g < w2.heap.size := (Array.getElem?_eq_some_iff.1 hg).1
  clear er hg hTp
  have FIN : Hid (∀ w4, All (blkC w.heap.size [.int .i64 n, .int .i64 a, .int .i64 c, .int .i64 k, .slice ao l.length cp] 39 :: (rollL g ps ++ cs)) w4 → Txts w4 (.slice ao l.length cp) l → Calls Try.prog 31 #[rowV n a c k (.slice ao l.length cp)] w4 fun e w5 => ∃ ao' c', e = .returned (rowV n a c k (.slice ao' l.length c')) ∧ w5.cell? ⟨g, i * 6, none⟩ = some (.bool p.on) ∧ w5.cell? ⟨g, i * 6 + 1, none⟩ = some (.int .i64 p.n) ∧ w5.cell? ⟨g, i * 6 + 2, none⟩ = some (.int .i64 p.a) ∧ w5.cell? ⟨g, i * 6 + 3, none⟩ = some (.int .i64 p.c) ∧ w5.cell? ⟨g, i * 6 + 4, none⟩ = some (.int .i64 p.k) ∧ w5.cell? ⟨g, i * 6 + 5, none⟩ = some (.slice aop p.l.length cpp) ∧ (∀ j, w5.frozen? ⟨g, j, none⟩ = false) ∧
      Hid (All (rollL g (ps.set i ⟨true, n, a, c, k, .slice ao' l.length c', l⟩) ++ cs) ((((((w5.setCell ⟨g, i * 6, none⟩ (.bool true)).setCell ⟨g, i * 6 + 1, none⟩ (.int .i64 n)).setCell ⟨g, i * 6 + 2, none⟩ (.int .i64 a)).setCell ⟨g, i * 6 + 3, none⟩ (.int .i64 c)).setCell ⟨g, i * 6 + 4, none⟩ (.int .i64 k)).setCell ⟨g, i * 6 + 5, none⟩ (.slice ao' l.length c')))) := by
    intro w4 hA4 hT4
    refine (copied_any hA4 n a c k hT4 hl2).mono ?_
    rintro e w5 ⟨ao', c', rfl, A5, B5⟩
    have A6 : All (blkC g (flatP ps) 69 :: (ownC 9 (.slice ao' l.length c') (cellsT l) :: (ps.map Pl.part ++ cs))) w5 := by
      refine All.perm ?_ (A5.sublist (.cons_cons _ (.cons _ (.refl _))))
      simp only [rollL, List.cons_append]
      exact List.Perm.swap _ _ _
    have hg5 := A6.1.2.1
    obtain ⟨c0, c1, c2, c3, c4, c5⟩ := cells5 hg5 HP.out
    rw [e5] at c5
    refine ⟨ao', c', rfl, c0, c1, c2, c3, c4, c5, fun j => free_at hg5 j, ?_⟩
    have A7 := (((((A6.setBlk (i * 6) (.bool true)).setBlk (i * 6 + 1) (.int .i64 n)).setBlk (i * 6 + 2) (.int .i64 a)).setBlk (i * 6 + 3) (.int .i64 c)).setBlk (i * 6 + 4) (.int .i64 k)).setBlk (i * 6 + 5) (.slice ao' l.length c')
    have eq := flatP_set (q := ⟨true, n, a, c, k, .slice ao' l.length c', l⟩) HP.out
    simp only at eq
    rw [eq] at A7
    have A8 := All.setPart (i := i) (L := ps.map Pl.part) (cs := cs) (by simp; exact (List.getElem?_eq_some_iff.1 HP.out).1) A7.tail
    have h9 : All (blkC g (flatP (ps.set i ⟨true, n, a, c, k, .slice ao' l.length c', l⟩)) 69 :: ((ps.map Pl.part).set i (ownC 9 (.slice ao' l.length c') (cellsT l)) ++ cs)) _ := ⟨A7.1, fun d hd => A7.2.1 d (by
      rcases List.mem_append.1 hd with hd | hd
      · rcases List.mem_or_eq_of_mem_set hd with hd | rfl
        · exact List.mem_cons_of_mem _ (List.mem_append_left _ hd)
        · exact List.mem_cons_self
      · exact List.mem_cons_of_mem _ (List.mem_append_right _ hd)), A8⟩
    show All _ _
    simp only [rollL, List.cons_append, List.map_set]
    exact h9
  rw [hof] at c0
  have C1 : Hid (Calls Try.prog 29 #[.pointer (some ⟨g, 0, none⟩), .int .i64 (i : Int)] w2.drew fun e w' => e = .returned (.bool false) ∧ w' = w2.drew) := by
    have := has_any (w := w2.drew) HG.out HP.out hi
    rw [hof] at this
    exact this
  have CQ : Hid (∀ q : Nat, Calls Try.prog 29 #[.pointer (some ⟨g, 0, none⟩), .int .i64 (i : Int)] (w2.drewN q) fun e w' => e = .returned (.bool false) ∧ w' = w2.drewN q) := by
    intro q
    have := has_any (w := w2.drewN q) HG.out HP.out hi
    rw [hof] at this
    exact this
  clear C1
  go_wp2_with fail
  go_quiet (first | (go_at_call 29; exact Calls.quiet_of_same (CQ.out _)))
  have FA := hid (HA2.out.drewN nq)
  have FT := hid (HT2.out.later (bdN w2 nq))
  clear CQ r0 r1 r2 r3 r4 c0 c1 c2 c3 c4 c5 hgl HA2 HT2
  generalize w2.drewN nq = w4 at FA FT ⊢
  have C3 := hid (FIN.out w4.drew FA.out.drew (FT.out.later (bd w4)))
  have er : w4.heap[w.heap.size]? = some (.cells #[.int .i64 n, .int .i64 a, .int .i64 c, .int .i64 k, .slice ao l.length cp] 39 (0, 0)) := FA.out.1.2.1
  have r0 : w4.cell? ⟨w.heap.size, 0, none⟩ = some (.int .i64 n) := by rw [cell_at er]; rfl
  have r1 : w4.cell? ⟨w.heap.size, 1, none⟩ = some (.int .i64 a) := by rw [cell_at er]; rfl
  have r2 : w4.cell? ⟨w.heap.size, 2, none⟩ = some (.int .i64 c) := by rw [cell_at er]; rfl
  have r3 : w4.cell? ⟨w.heap.size, 3, none⟩ = some (.int .i64 k) := by rw [cell_at er]; rfl
  have r4 : w4.cell? ⟨w.heap.size, 4, none⟩ = some (.slice ao l.length cp) := by rw [cell_at er]; rfl
  clear er FIN FA FT
  go_wp2_with fail
  all_goals go_region_law (go_simp; go_at_call 31; refine C3.out.mono ?_; rintro e w5 ⟨ao', c', rfl, c0, c1, c2, c3, c4, c5, cf, H5⟩)
  all_goals clear C3 c0 c1 c2 c3 c4 c5 cf
  all_goals (go_wp2; go_ret; exact ⟨rfl, _, H5.out⟩)

/-- What Set does. -/
theorem set_any {g : Nat} {cl n a c k : Int} {s : Value} {l : List ByteArray} {ps : List Pl} {cs : List Comp} {w : World} (h : All (rollL g ps ++ cs) w) (h8 : ps.length = 8) (hT : Txts w s l) (hl : l.length ≤ 9223372036854775807) : Calls Try.prog 12 #[.pointer (some ⟨g, 0, none⟩), .int .i64 cl, rowV n a c k s] w fun e w' => e = .returned (.int .i64 (setE ps cl n a c k l)) ∧ ∃ ps', All (rollL g ps' ++ cs) w' ∧ ((setE ps cl n a c k l ≠ 0 ∧ ps' = ps) ∨ (setE ps cl n a c k l = 0 ∧ ∃ s', ps' = ps.set cl.toNat ⟨true, n, a, c, k, s', l⟩)) := by
  by_cases hc : 0 ≤ cl ∧ cl < 8
  case neg =>
    have e : setE ps cl n a c k l = 70 := by rw [setE, if_pos hc]
    rw [e]
    obtain ⟨ao, cp, rfl⟩ := hT.form
    exact (set_who h hc ⟨_, _, _, rfl⟩).mono fun e w' ⟨h1, h2⟩ => ⟨h1, ps, h2, .inl ⟨by omega, rfl⟩⟩
  by_cases hm : may n a c k l = false
  · have e : setE ps cl n a c k l = 72 := by rw [setE, if_neg (by simpa using hc), if_pos hm]
    rw [e]
    exact (set_form h hc hT hl hm).mono fun e w' ⟨h1, h2⟩ => ⟨h1, ps, h2, .inl ⟨by omega, rfl⟩⟩
  have hm' : may n a c k l = true := by simpa using hm
  have hl2 : l.length ≤ 1000 := by
    simp only [may, decide_eq_true_eq] at hm'
    have := hm'.2.2.2.2
    unfold chkX at this
    repeat' split at this
    all_goals omega
  obtain ⟨i, rfl⟩ : ∃ i : Nat, cl = i := ⟨cl.toNat, by omega⟩
  have hi : i < 8 := by omega
  obtain ⟨p, hp⟩ : ∃ p, ps[i]? = some p := ⟨_, List.getElem?_eq_getElem (by omega)⟩
  have hd : ps.getD (i : Int).toNat .zero = p := by simp [List.getD, hp]
  have e0 : setE ps i n a c k l = if p.on = true ∧ ¬ (p.n < n ∧ p.a < a) then 71 else 0 := by rw [setE, if_neg (by simpa using hc), if_neg hm, hd]
  by_cases ho : p.on = true ∧ ¬ (p.n < n ∧ p.a < a)
  · rw [e0, if_pos ho]
    exact (set_old h hi hp hT hl hm' ho.1 ho.2).mono fun e w' ⟨h1, h2⟩ => ⟨h1, ps, h2, .inl ⟨by omega, rfl⟩⟩
  rw [e0, if_neg ho]
  cases hon : p.on with
  | false => exact (set_off h hi hp hT hl hl2 hm' hon).mono fun e w' ⟨h1, s', h2⟩ => ⟨h1, _, h2, .inr ⟨rfl, s', by simp⟩⟩
  | true => exact (set_on h hi hp hT hl hl2 hm' hon (Classical.not_not.1 fun hn => ho ⟨hon, hn⟩)).mono fun e w' ⟨h1, s', h2⟩ => ⟨h1, _, h2, .inr ⟨rfl, s', by simp⟩⟩

end Go.Proofs.Ytagdpfghooogfaa

namespace Go.Proofs.Ytagdpfghooogfaa
open Go.RowKit
set_option linter.unusedVariables false

/-- A row's bytes. -/
def rowB (n a c k : Int) (l : List ByteArray) : List UInt8 := enc 9 n.toNat ++ (enc 9 a.toNat ++ (enc 9 c.toNat ++ if c = 0 then enc 9 k.toNat ++ itemsB l else []))

theorem may_parts {n a c k : Int} {l : List ByteArray} (h : may n a c k l = true) : 1 ≤ n ∧ n ≤ 1099511627776 ∧ 1 ≤ a ∧ a ≤ 1099511627776 ∧ 0 ≤ c ∧ c ≤ 4 ∧ 0 ≤ k ∧ k ≤ 1099511627776 ∧ (c ≠ 0 → k = 0 ∧ l = []) ∧ l.length ≤ 8 ∧ (∀ t ∈ l, t.size ≤ 64) ∧ chkX c k l = 0 := by
  simp only [may, decide_eq_true_eq] at h
  obtain ⟨h1, h2, h3, h4, h5⟩ := h
  refine ⟨h1, h2, h3, h4, ?_⟩
  have h5' := h5
  unfold chkX at h5'
  split at h5'
  · omega
  split at h5'
  · omega
  split at h5'
  · omega
  split at h5'
  · omega
  split at h5'
  · omega
  rename_i q1 q2 q3 q4 q5
  refine ⟨by omega, by omega, by omega, by omega, fun hc => ?_, by omega, fun t ht => ?_, h5⟩
  · refine ⟨Classical.byContradiction fun hk => q2 ⟨hc, .inl hk⟩, Classical.byContradiction fun hk => q2 ⟨hc, .inr hk⟩⟩
  · exact Classical.byContradiction fun hk => q5 ⟨t, ht, by omega⟩

theorem may_put {n a c k : Int} {l : List ByteArray} (h : may n a c k l = true) : putX (numS (numS (some []) n) a) c k l = some (rowB n a c k l) := by
  obtain ⟨h1, h2, h3, h4, h5, h6, h7, h8, h9, h10, h11, h12⟩ := may_parts h
  have en : ∀ (st : Option (List UInt8)) (x : Int), 0 ≤ x → numS st x = addS st (enc 9 x.toNat) := fun st x hx => by
    have := numS_nat st x.toNat
    rw [show (x.toNat : Int) = x by omega] at this
    exact this
  rw [putX, if_pos h12]
  rw [en _ n (by omega), en _ a (by omega)]
  by_cases hc : c = 0
  · rw [if_pos hc, en _ c h5, en _ k h7]
    simp [addS, rowB, hc]
  · rw [if_neg hc, en _ c h5]
    simp [addS, rowB, hc]

theorem enc_short (m : Nat) : ∀ (f n : Nat), n < 128 ^ (m + 1) → (enc f n).length ≤ m + 1 := by
  induction m with
  | zero => intro f n h; rw [enc_small f n (by omega)]; simp
  | succ m ih =>
    intro f n h
    by_cases hn : n < 128
    · rw [enc_small f n hn]; simp
    · cases f with
      | zero => simp [enc]
      | succ f =>
        rw [enc_step f n hn]
        have : n / 128 < 128 ^ (m + 1) := by
          rw [Nat.div_lt_iff_lt_mul (by omega)]
          rw [Nat.pow_succ] at h
          exact h
        have := ih f (n / 128) this
        simp; omega

theorem textsB_short {l : List ByteArray} (h : ∀ t ∈ l, t.size ≤ 64) : (textsB l).length ≤ 65 * l.length := by
  induction l with
  | nil => simp [textsB]
  | cons t l ih =>
    have h1 := ih (fun x hx => h x (by simp [hx]))
    have h2 := h t (by simp)
    have h3 := enc_short 0 9 t.size (by omega)
    have h4 := str_len t
    simp only [textsB, List.flatMap_cons, List.length_append, List.length_cons] at h1 ⊢
    omega

theorem rowB_len {n a c k : Int} {l : List ByteArray} (h : may n a c k l = true) : 0 < (rowB n a c k l).length ∧ (rowB n a c k l).length < 600 := by
  obtain ⟨h1, h2, h3, h4, h5, h6, h7, h8, h9, h10, h11, h12⟩ := may_parts h
  have e1 := enc_short 5 9 n.toNat (by omega)
  have e2 := enc_short 5 9 a.toNat (by omega)
  have e3 := enc_short 0 9 c.toNat (by omega)
  have e4 := enc_short 5 9 k.toNat (by omega)
  have e5 := enc_short 0 9 l.length (by omega)
  have e6 := textsB_short h11
  have e7 : 0 < (enc 9 n.toNat).length := by
    by_cases hn : n.toNat < 128
    · rw [enc_small _ _ hn]; simp
    · rw [enc_step _ _ hn]; simp
  by_cases hc : c = 0
  · simp only [rowB, if_pos hc, List.length_append, itemsB]
    omega
  · simp only [rowB, if_neg hc, List.length_append, List.length_nil]
    omega

theorem bulk_short {l : List ByteArray} (h : ∀ t ∈ l, t.size ≤ 64) : bulkT l ≤ 74 * l.length := by
  induction l with
  | nil => simp [bulkT]
  | cons t l ih =>
    have h1 := ih (fun x hx => h x (by simp [hx]))
    have h2 := h t (by simp)
    simp only [bulkT, List.map_cons, List.sum_cons, List.length_cons] at h1 ⊢
    omega

theorem lenS_num0 (st : Option (List UInt8)) (n : Int) (m : Nat) (h : lenS st ≤ m) : lenS (numS st n) ≤ m + 10 := Nat.le_trans (lenS_num st n) (by omega)

set_option maxHeartbeats 1600000 in
set_option maxRecDepth 1000000 in
theorem bytes_on {g i : Nat} {ps : List Pl} {p : Pl} {cs : List Comp} {w : World} (h : All (rollL g ps ++ cs) w) (hp : ps[i]? = some p) (hi : i < 8) (hon : p.on = true) (hm : may p.n p.a p.c p.k p.l = true) : Calls Try.prog 23 #[.pointer (some ⟨g, 0, none⟩), .int .i64 (i : Int)] w fun e w' => ∃ so sc, e = .returned (.slice so (rowB p.n p.a p.c p.k p.l).length sc) ∧ All (ownC 5 (.slice so (rowB p.n p.a p.c p.k p.l).length sc) (cellsB (rowB p.n p.a p.c p.k p.l)) :: (rollL g ps ++ cs)) w' := by
  obtain ⟨hg, hT⟩ := h.place hp
  obtain ⟨c0, c1, c2, c3, c4, c5⟩ := cells5 hg hp
  obtain ⟨ao, cp, e5⟩ := hT.form
  have HH := hid hg
  have HA := hid h
  have HP := hid hp
  have HM := hid hm
  have hI : (i : Int) < 8 := by omega
  rw [e5] at c5
  clear h hg hT hm hp
  go_enter Try.func23, Try.ntmps23
  go_wp2_with fail
  refine (has_any HH.out HP.out hi).mono ?_
  rw [hon]
  rintro e w1 ⟨rfl, rfl⟩
  go_wp2_with fail
  have HA1 := hid (HA.out.addBlk [.int .i64 p.n, .int .i64 p.a, .int .i64 p.c, .int .i64 p.k, .slice ao p.l.length cp] 39)
  have HT : Hid (∀ w', All (blkC w1.heap.size [.int .i64 p.n, .int .i64 p.a, .int .i64 p.c, .int .i64 p.k, .slice ao p.l.length cp] 39 :: (rollL g ps ++ cs)) w' → Txts w' (.slice ao p.l.length cp) p.l) := fun w' hw' => e5 ▸ (hw'.tail.place HP.out).2
  clear HA HH c0 c1 c2 c3 c4 c5
  refine (newW HA1.out).mono ?_
  rintro e w2 ⟨b, rfl, A⟩
  have A := hid A
  clear HA1
  have er : w2.heap[w1.heap.size]? = some (.cells #[.int .i64 p.n, .int .i64 p.a, .int .i64 p.c, .int .i64 p.k, .slice ao p.l.length cp] 39 (0, 0)) := A.out.tail.1.2.1
  have r0 : w2.cell? ⟨w1.heap.size, 0, none⟩ = some (.int .i64 p.n) := by rw [cell_at er]; rfl
  have r1 : w2.cell? ⟨w1.heap.size, 1, none⟩ = some (.int .i64 p.a) := by rw [cell_at er]; rfl
  have r2 : w2.cell? ⟨w1.heap.size, 2, none⟩ = some (.int .i64 p.c) := by rw [cell_at er]; rfl
  have r3 : w2.cell? ⟨w1.heap.size, 3, none⟩ = some (.int .i64 p.k) := by rw [cell_at er]; rfl
  have r4 : w2.cell? ⟨w1.heap.size, 4, none⟩ = some (.slice ao p.l.length cp) := by rw [cell_at er]; rfl
  clear er
  go_wp2_with fail
  refine (numW A.out p.n (by have := may_parts HM.out; omega) (by simp [lenS])).mono ?_
  rintro e w3 ⟨rfl, v3, A3⟩
  have A := hid A3
  clear A3 r0 r1 r2 r3 r4
  have er : w3.heap[w1.heap.size]? = some (.cells #[.int .i64 p.n, .int .i64 p.a, .int .i64 p.c, .int .i64 p.k, .slice ao p.l.length cp] 39 (0, 0)) := A.out.tail.1.2.1
  have r0 : w3.cell? ⟨w1.heap.size, 0, none⟩ = some (.int .i64 p.n) := by rw [cell_at er]; rfl
  have r1 : w3.cell? ⟨w1.heap.size, 1, none⟩ = some (.int .i64 p.a) := by rw [cell_at er]; rfl
  have r2 : w3.cell? ⟨w1.heap.size, 2, none⟩ = some (.int .i64 p.c) := by rw [cell_at er]; rfl
  have r3 : w3.cell? ⟨w1.heap.size, 3, none⟩ = some (.int .i64 p.k) := by rw [cell_at er]; rfl
  have r4 : w3.cell? ⟨w1.heap.size, 4, none⟩ = some (.slice ao p.l.length cp) := by rw [cell_at er]; rfl
  clear er
  go_wp2_with fail
  refine (numW A.out p.a (by have := may_parts HM.out; omega) (by have := lenS_num (some []) p.n; simp [lenS] at this ⊢; omega)).mono ?_
  rintro e w4 ⟨rfl, v4, A4⟩
  have A := hid A4
  clear A4 r0 r1 r2 r3 r4
  have er : w4.heap[w1.heap.size]? = some (.cells #[.int .i64 p.n, .int .i64 p.a, .int .i64 p.c, .int .i64 p.k, .slice ao p.l.length cp] 39 (0, 0)) := A.out.tail.1.2.1
  have r0 : w4.cell? ⟨w1.heap.size, 0, none⟩ = some (.int .i64 p.n) := by rw [cell_at er]; rfl
  have r1 : w4.cell? ⟨w1.heap.size, 1, none⟩ = some (.int .i64 p.a) := by rw [cell_at er]; rfl
  have r2 : w4.cell? ⟨w1.heap.size, 2, none⟩ = some (.int .i64 p.c) := by rw [cell_at er]; rfl
  have r3 : w4.cell? ⟨w1.heap.size, 3, none⟩ = some (.int .i64 p.k) := by rw [cell_at er]; rfl
  have r4 : w4.cell? ⟨w1.heap.size, 4, none⟩ = some (.slice ao p.l.length cp) := by rw [cell_at er]; rfl
  clear er
  go_wp2_with fail
  refine (putR_any A.out (fun w' hw' => HT.out w' hw') p.c p.k (by have := may_parts HM.out; omega) (by have := may_parts HM.out; omega) ?_ (by have := may_parts HM.out; omega)).mono ?_
  · have h1 := lenS_num (some []) p.n
    have h2 := lenS_num (numS (some []) p.n) p.a
    have h3 := may_parts HM.out
    have h4 := bulk_short h3.2.2.2.2.2.2.2.2.2.2.1
    simp only [lenS, List.length_nil] at h1 h2 ⊢
    omega
  rw [may_put HM.out]
  rintro e w5 ⟨rfl, v5, A5⟩
  have A := hid A5
  clear A5 r0 r1 r2 r3 r4
  go_wp2_with fail
  refine (doneW A.out (by have := rowB_len HM.out; omega)).mono ?_
  rintro e w6 ⟨so, sc, rfl, A6⟩
  have A := hid A6
  clear A6
  generalize hR : rowB p.n p.a p.c p.k p.l = R at A ⊢
  generalize hL : R.length = L at A ⊢
  have HR := hid hR
  have HL := hid hL
  clear hR hL
  go_wp2
  go_ret
  obtain rfl := HL.out
  obtain rfl := HR.out
  refine ⟨so, sc, rfl, A.out.sublist (.cons_cons _ (.cons _ (.cons _ (.refl _))))⟩

theorem bytes_off {g : Nat} {c : Int} {ps : List Pl} {cs : List Comp} {w : World} (h : All (rollL g ps ++ cs) w) (hn : ∀ w', All (rollL g ps ++ cs) w' → Calls Try.prog 29 #[.pointer (some ⟨g, 0, none⟩), .int .i64 c] w' fun e w2 => e = .returned (.bool false) ∧ w2 = w') : Calls Try.prog 23 #[.pointer (some ⟨g, 0, none⟩), .int .i64 c] w fun e w' => e = .returned (.slice none 0 0) ∧ All (rollL g ps ++ cs) w' := by
  have HA := hid h
  have HN := hid hn
  clear h hn
  go_enter Try.func23, Try.ntmps23
  go_wp2_with fail
  refine (HN.out _ HA.out).mono ?_
  rintro e w1 ⟨rfl, rfl⟩
  go_wp2
  go_ret
  exact ⟨rfl, HA.out⟩

end Go.Proofs.Ytagdpfghooogfaa

namespace Go.Proofs.Ytagdpfghooogfaa
set_option linter.unusedVariables false

theorem lim_step (n k most top : Nat) (h : n < (top + 1) * 128 ^ (most - 1 - k)) (hk : k + 1 < most) : n / 128 < (top + 1) * 128 ^ (most - 1 - (k + 1)) := by
  have e : most - 1 - k = (most - 1 - (k + 1)) + 1 := by omega
  rw [e, Nat.pow_succ, ← Nat.mul_assoc] at h
  omega

theorem lim_last (n k most top : Nat) (h : n < (top + 1) * 128 ^ (most - 1 - k)) (hk : k + 1 = most) : n ≤ top := by
  have e : most - 1 - k = 0 := by omega
  rw [e] at h
  simp at h
  omega

theorem split128 (n p : Nat) : n % 128 * p + n / 128 * (p * 128) = n * p := by
  have h : n % 128 + 128 * (n / 128) = n := Nat.mod_add_div n 128
  have e : (n % 128 + 128 * (n / 128)) * p = n * p := by rw [h]
  rw [← e, Nat.add_mul, Nat.mul_comm p 128, ← Nat.mul_assoc, Nat.mul_comm (n / 128) 128]

theorem byte_lo (n : Nat) (h : n < 128) : (UInt8.ofNat n).toNat = n := toNat_small n h

/-- What is written is read. -/
theorem look_enc (most top : Nat) (ht : top < 128) (rest : List UInt8) : ∀ (f k n acc : Nat), k < most → most - 1 - k ≤ f → n < (top + 1) * 128 ^ (most - 1 - k) → (0 < k → 0 < n) →
    look most top k (enc f n ++ rest) acc = (acc + n * 128 ^ k, k + (enc f n).length, 0) := by
  intro f
  induction f with
  | zero =>
    intro k n acc hk hf hn h0
    have hl := lim_last n k most top hn (by omega)
    have hc := byte_lo n (by omega)
    simp only [enc, List.cons_append, List.nil_append, look, hc]
    rw [if_neg (by omega), if_neg (by omega), if_neg (by omega), Nat.mod_eq_of_lt (by omega)]
    simp
  | succ f ih =>
    intro k n acc hk hf hn h0
    by_cases hs : n < 128
    · have hc := byte_lo n hs
      rw [enc_small _ _ hs]
      simp only [List.cons_append, List.nil_append, look, hc]
      have hw : ¬ (k + 1 = most ∧ top < n) := fun ⟨a, b⟩ => by have := lim_last n k most top hn a; omega
      rw [if_neg hw, if_neg (by omega), if_neg (by omega), Nat.mod_eq_of_lt hs]
      simp
    · have hkm : k + 1 < most := by
        by_cases h : k + 1 < most
        · exact h
        · have := lim_last n k most top hn (by omega); omega
      rw [enc_step f n hs]
      simp only [List.cons_append, look, toNat_of128]
      rw [if_neg (by omega), if_pos (by omega)]
      have e : (n % 128 + 128) % 128 = n % 128 := by omega
      rw [e, ih (k + 1) (n / 128) _ hkm (by omega) (lim_step n k most top hn hkm) (by omega)]
      have hp : (128 : Nat) ^ (k + 1) = 128 ^ k * 128 := Nat.pow_succ ..
      have hs := split128 n (128 ^ k)
      rw [hp]
      simp only [List.length_cons, Prod.mk.injEq, and_true]
      omega

/-- A proper beginning is short. -/
theorem look_cut (most top : Nat) (ht : top < 128) : ∀ (f k n acc m : Nat), k < most → most - 1 - k ≤ f → n < (top + 1) * 128 ^ (most - 1 - k) → m < (enc f n).length →
    look most top k ((enc f n).take m) acc = (0, 0, 10) := by
  intro f
  induction f with
  | zero =>
    intro k n acc m hk hf hn hm
    simp [enc] at hm
    subst hm
    simp [look]
  | succ f ih =>
    intro k n acc m hk hf hn hm
    cases m with
    | zero => simp [look]
    | succ m =>
      by_cases hs : n < 128
      · rw [enc_small _ _ hs] at hm; simp at hm
      · have hkm : k + 1 < most := by
          by_cases h : k + 1 < most
          · exact h
          · have := lim_last n k most top hn (by omega); omega
        rw [enc_step f n hs] at hm ⊢
        simp only [List.take_succ_cons, look, toNat_of128]
        rw [if_neg (by omega), if_pos (by omega)]
        exact ih (k + 1) (n / 128) _ m hkm (by omega) (lim_step n k most top hn hkm) (by simpa using hm)

/-- What is read is written as just these bytes. -/
theorem look_inv (most top : Nat) (ht : top < 128) (l : List UInt8) : ∀ (f k acc : Nat), k < most → most - 1 - k ≤ f → (look most top k l acc).2.2 = 0 →
    ∃ n, (look most top k l acc).1 = acc + n * 128 ^ k ∧ (look most top k l acc).2.1 = k + (enc f n).length ∧ l = enc f n ++ l.drop (enc f n).length ∧ (0 < k → 0 < n) ∧ n < (top + 1) * 128 ^ (most - 1 - k) := by
  induction l with
  | nil => intro f k acc hk hf h; simp [look] at h
  | cons c r ih =>
    intro f k acc hk hf
    unfold look
    have hc := c.toNat_lt
    by_cases hA : k + 1 = most ∧ top < c.toNat
    · rw [if_pos hA]; simp
    · rw [if_neg hA]
      by_cases hB : 128 ≤ c.toNat
      · rw [if_pos hB]
        intro h
        have hkm : k + 1 < most := by
          by_cases h : k + 1 < most
          · exact h
          · exact absurd ⟨by omega, by omega⟩ hA
        cases f with
        | zero => omega
        | succ f =>
          obtain ⟨n, h1, h2, h3, h4, h5⟩ := ih f (k + 1) _ hkm (by omega) h
          have h0 := h4 (by omega)
          have hn : ¬ c.toNat % 128 + 128 * n < 128 := by omega
          have e1 : (c.toNat % 128 + 128 * n) % 128 = c.toNat % 128 := by omega
          have e2 : (c.toNat % 128 + 128 * n) / 128 = n := by omega
          have e3 : UInt8.ofNat (c.toNat % 128 + 128) = c := by
            apply UInt8.toNat_inj.1
            rw [toNat_of128]; omega
          have ee : enc (f + 1) (c.toNat % 128 + 128 * n) = c :: enc f n := by rw [enc_step f _ hn, e1, e2, e3]
          refine ⟨c.toNat % 128 + 128 * n, ?_, ?_, ?_, by omega, ?_⟩
          · rw [h1, Nat.pow_succ, Nat.add_mul, Nat.add_assoc, Nat.mul_comm (128 ^ k) 128, ← Nat.mul_assoc, Nat.mul_comm n 128]
          · rw [h2, ee]; simp; omega
          · rw [ee]; simpa using h3
          · have e : most - 1 - k = (most - 1 - (k + 1)) + 1 := by omega
            rw [e, Nat.pow_succ, ← Nat.mul_assoc]
            omega
      · rw [if_neg hB]
        by_cases hC : c.toNat = 0 ∧ 0 < k
        · rw [if_pos hC]; simp
        · rw [if_neg hC]
          intro _
          have e3 : UInt8.ofNat c.toNat = c := by
            apply UInt8.toNat_inj.1
            rw [toNat_small _ (by omega)]
          have ee : enc f c.toNat = [c] := by rw [enc_small f _ (by omega), e3]
          refine ⟨c.toNat, ?_, ?_, ?_, by omega, ?_⟩
          · rw [Nat.mod_eq_of_lt (by omega)]
          · rw [ee]; rfl
          · rw [ee]; rfl
          · by_cases h : k + 1 = most
            · have e : most - 1 - k = 0 := by omega
              rw [e]
              simp
              by_cases h' : top < c.toNat
              · exact absurd ⟨h, h'⟩ hA
              · omega
            · have e : most - 1 - k = (most - 1 - (k + 1)) + 1 := by omega
              rw [e, Nat.pow_succ, ← Nat.mul_assoc]
              have : 1 ≤ (top + 1) * 128 ^ (most - 1 - (k + 1)) := Nat.mul_pos (by omega) (Nat.pow_pos (by omega))
              omega

theorem lim9 : (127 + 1) * 128 ^ (9 - 1 - 0) = 9223372036854775808 := by decide
theorem lim10 : (1 + 1) * 128 ^ (10 - 1 - 0) = 18446744073709551616 := by decide

theorem numR_enc (n : Nat) (hn : n < 9223372036854775808) (rest : List UInt8) (most above : Int) (hm : (n : Int) ≤ most) : numR (enc 9 n ++ rest) most above = ((n : Int), (enc 9 n).length, 0) := by
  have h := look_enc 9 127 (by omega) rest 9 0 n 0 (by omega) (by omega) (by rw [lim9]; exact hn) (by omega)
  unfold numR
  rw [h]
  simp only [Nat.pow_zero, Nat.mul_one, Nat.zero_add, if_true]
  rw [if_neg (by omega)]

theorem numR_cut (n : Nat) (hn : n < 9223372036854775808) (m : Nat) (hm : m < (enc 9 n).length) (most above : Int) : numR ((enc 9 n).take m) most above = (0, 0, 10) := by
  have h := look_cut 9 127 (by omega) 9 0 n 0 m (by omega) (by omega) (by rw [lim9]; exact hn) hm
  unfold numR
  rw [h]
  rfl

theorem unfold_fold (n : Int) : unfoldN (foldN n) = n := by
  unfold unfoldN foldN
  by_cases h : n < 0
  · rw [if_pos h, if_pos (by omega)]; omega
  · rw [if_neg h, if_neg (by omega)]; omega

theorem fold_unfold (n : Nat) : foldN (unfoldN n) = n := by
  unfold unfoldN foldN
  by_cases h : n % 2 = 1
  · rw [if_pos h, if_pos (by omega)]; omega
  · rw [if_neg h, if_neg (by omega)]; omega

theorem runR_enc (l rest : List UInt8) (hl : l.length < 9223372036854775808) (most : Int) (hm : (l.length : Int) ≤ most) : runR (enc 9 l.length ++ (l ++ rest)) most = (l, (enc 9 l.length).length + l.length, 0) := by
  have h := numR_enc l.length hl (l ++ rest) most 14 hm
  unfold runR
  rw [h]
  simp only [if_true]
  rw [if_neg (by simp; omega)]
  simp

theorem runR_cut (l : List UInt8) (hl : l.length < 9223372036854775808) (m : Nat) (hm : m < (enc 9 l.length ++ l).length) (most : Int) (hmost : (l.length : Int) ≤ most) : (runR ((enc 9 l.length ++ l).take m) most).2.2 = 10 ∧ (runR ((enc 9 l.length ++ l).take m) most).1 = [] := by
  by_cases h : m < (enc 9 l.length).length
  · rw [List.take_append_of_le_length (by omega)]
    have e := numR_cut l.length hl m h most 14
    unfold runR
    rw [e]
    simp
  · have e : (enc 9 l.length ++ l).take m = enc 9 l.length ++ l.take (m - (enc 9 l.length).length) := by
      rw [List.take_append, List.take_of_length_le (by omega)]
    rw [e]
    have h' := numR_enc l.length hl (l.take (m - (enc 9 l.length).length)) most 14 hmost
    unfold runR
    rw [h']
    rw [List.length_append] at hm
    simp only [if_true]
    rw [if_pos (by simp; omega)]
    simp

end Go.Proofs.Ytagdpfghooogfaa

namespace Go.Proofs.Ytagdpfghooogfaa
open Go.RowKit
set_option linter.unusedVariables false

set_option maxHeartbeats 800000 in
set_option maxRecDepth 1000000 in
theorem Close_any {w : World} {b : Nat} {D : Option Nat} {rv : Value} {rs : List UInt8} {place : Nat} {err : Int} (h : Rd w b D rv rs place err) :
    Calls Try.prog 57 #[.pointer (some ⟨b, 0, none⟩)] w fun e w' => e = .returned (.int .i64 (if rs = [] then err else keepE err 15)) ∧ (∃ rv', Rd w' b D rv' [] place (if rs = [] then err else keepE err 15)) ∧ Only b w w' := by
  obtain ⟨ao, c, hf⟩ := h.reads.form
  subst hf
  have c0 : w.cell? ⟨b, 0, none⟩ = some (.slice ao rs.length c) := by rw [cell_at h.box]; rfl
  have c2 : w.cell? ⟨b, 2, none⟩ = some (.int .i64 err) := by rw [cell_at h.box]; rfl
  have HH : Hid _ := h
  clear h
  by_cases hrs : rs = []
  · subst hrs
    rw [if_pos rfl]
    go_enter Try.func57, Try.ntmps57
    go_wp2
    go_ret
    exact ⟨rfl, ⟨_, HH.out⟩, Only.refl _ _⟩
  · rw [if_neg hrs]
    have hl : 0 < rs.length := List.length_pos_iff.2 hrs
    clear hrs
    go_enter Try.func57, Try.ntmps57
    go_wp2_with fail
    refine (rfail_any HH.out 15 (by omega)).mono ?_
    rintro e w1 ⟨rfl, ⟨rv', h1⟩, h2⟩
    have H1 : Hid _ := h1
    have H2 : Hid _ := h2
    have d2 : w1.cell? ⟨b, 2, none⟩ = some (.int .i64 (keepE err 15)) := by rw [cell_at h1.box]; rfl
    clear h1 h2
    go_wp2
    go_ret
    exact ⟨rfl, ⟨_, H1.out⟩, H2.out⟩

end Go.Proofs.Ytagdpfghooogfaa

namespace Go.Proofs.Ytagdpfghooogfaa
open Go.RowKit
set_option linter.unusedVariables false

def Rst.size (r : Rst) : Nat := r.place + r.rs.length
theorem aft_size (r : Rst) (size : Nat) (e : Int) (h : e = 0 → size ≤ r.rs.length) : (r.aft size e).size ≤ r.size := by
  unfold Rst.aft Rst.size aft
  split
  · rename_i he
    have := h he
    simp only [List.length_drop]
    omega
  · simp only [List.length_nil]; omega
theorem num_size (r : Rst) (m : Int) : (r.num m).size ≤ r.size := aft_size r _ _ (fun _ => numR_size _ _ _)
theorem txt_size (r : Rst) (m : Int) : (r.txt m).size ≤ r.size := aft_size r _ _ (runR_size _ _).1

theorem numR_le (rs : List UInt8) (most above : Int) (hm : 0 ≤ most) : (numR rs most above).1 ≤ most := by
  rw [numR_eq]
  split
  · split
    · simpa using hm
    · simp only; omega
  · simpa using hm

/-- Texts that are read one behind the other. -/
def Rst.items (r : Rst) : Nat → List ByteArray × Rst
  | 0 => ([], r)
  | n + 1 => ((r.items n).1 ++ [(r.items n).2.txtV 64], (r.items n).2.txt 64)
theorem items_len (r : Rst) (n : Nat) : (r.items n).1.length = n := by
  induction n with
  | zero => rfl
  | succ n ih => simp [Rst.items, ih]
theorem items_size (r : Rst) (n : Nat) : (r.items n).2.size ≤ r.size := by
  induction n with
  | zero => exact Nat.le_refl _
  | succ n ih => exact Nat.le_trans (txt_size _ _) ih

set_option maxHeartbeats 1600000 in
set_option maxRecDepth 1000000 in
theorem getItems_any {b : Nat} {D : Option Nat} {rv : Value} {r : Rst} {cs : List Comp} {w : World} (h : All (rdC b D rv r :: cs) w) (hp : r.size ≤ 140737488355328) :
    Calls Try.prog 70 #[.pointer (some ⟨b, 0, none⟩), .int .i64 8] w fun e w' => ∃ so sc rv', e = .returned (.slice so (((r.num 8).items (r.numV 8).toNat).1).length sc) ∧ All (ownC 9 (.slice so (((r.num 8).items (r.numV 8).toNat).1).length sc) (cellsT ((r.num 8).items (r.numV 8).toNat).1) :: rdC b D rv' ((r.num 8).items (r.numV 8).toNat).2 :: cs) w' := by
  have HH := hid h
  have HP := hid hp
  obtain ⟨N, hN⟩ : ∃ N : Nat, Hid (r.numV 8 = (N : Int) ∧ N ≤ 8) := ⟨(r.numV 8).toNat, hid (by
    have h1 := numR_val r.rs 8 13
    have h2 := numR_le r.rs 8 13 (by omega)
    unfold Rst.numV
    omega)⟩
  have eN : (r.numV 8).toNat = N := by rw [hN.out.1]; simp
  rw [eN]
  clear h hp eN
  go_enter Try.func70, Try.ntmps70
  go_wp2_with fail
  refine (numRd HH.out (by have := HP.out; unfold Rst.size at this; exact this) 8).mono ?_
  rw [hN.out.1]
  rintro e w1 ⟨rfl, rv1, A1⟩
  have A1 := hid A1
  have hN8 := hN.out.2
  clear HH
  obtain ⟨i0, hi, hz0, hz1, hz2⟩ := info_parts Try.info9
  go_wp2
  go_loopw [5, 9] (fun vv iv wr => ∃ (k : Nat) (so : Option Addr) (sc : Nat) (rv' : Value), vv = .slice so k sc ∧ iv = .int .i64 (k : Int) ∧ k ≤ N ∧ Hid (All (ownC 9 (.slice so k sc) (cellsT ((r.num 8).items k).1) :: rdC b D rv' ((r.num 8).items k).2 :: cs) wr)) (fun vv iv _ => N - (intOf iv).toNat)
  case atStart => exact ⟨0, none, 0, rv1, rfl, rfl, Nat.zero_le _, hid A1.out.addNil⟩
  case round =>
    obtain ⟨k, so, sc, rv', rfl, rfl, hk, AR⟩ := hrel
    clear A1
    by_cases hlt : k < N
    · have el : decide ((k : Int) < (N : Int)) = true := by simpa using hlt
      have HB : Hid (((r.num 8).items k).2.place + ((r.num 8).items k).2.rs.length ≤ 140737488355328) := hid (by
        have h1 := items_size (r.num 8) k
        have h2 := num_size r 8
        have h3 := HP.out
        unfold Rst.size at h1 h2 h3
        omega)
      go_wp2_with fail
      refine (textRd AR.out.swap HB.out 64).mono ?_
      rintro e w2 ⟨rfl, rv2, A2⟩
      have A3 := hid (A2.swap.alloc (.cells #[.string (((r.num 8).items k).2.txtV 64)] 9))
      have hrow : (w2.alloc (.cells #[.string (((r.num 8).items k).2.txtV 64)] 9)).ownsRow 0 9 1 (.slice so k sc) k (cellsT ((r.num 8).items k).1) := by
        have h1 : (w2.alloc (.cells #[.string (((r.num 8).items k).2.txtV 64)] 9)).ownsRow 0 9 1 (.slice so k sc) (cellsT ((r.num 8).items k).1).length (cellsT ((r.num 8).items k).1) := A3.out.1.2.1
        rw [cellsT_length, items_len] at h1
        exact h1
      have hnews : ∀ j u, [.string (((r.num 8).items k).2.txtV 64)][j]? = some u → (w2.alloc (.cells #[.string (((r.num 8).items k).2.txtV 64)] 9)).cell? ((⟨w2.heap.size, 0, none⟩ : Addr).add j) = some u := by
        intro j u hu
        rw [Addr.add_lit, cell_at (heap_alloc_new w2 _)]
        cases j with
        | zero => simpa using hu
        | succ j => simp at hu
      have hone : ∀ u ∈ [Value.string (((r.num 8).items k).2.txtV 64)], u.oneCell' = true := by
        intro u hu
        simp only [List.mem_singleton] at hu
        subst hu
        rfl
      clear AR A2
      go_wp2_with (at_builtin; refine wpList_append_own_at _ rfl (.tmp 11) (.tmp 14) 35 rfl 0 9 i0 (.string (.mk #[])) 1 16 Try.underlying35 hi hz0 hz1 hz2 rfl (by decide) _ _ _ rfl hrow ⟨w2.heap.size, 0, none⟩ 1 1 [.string (((r.num 8).items k).2.txtV 64)] rfl rfl hnews hone (by unfold maxLen; omega) (by omega) (by simp) ?_)
      intro v' w3 hown hgr _ hat
      have A4 := A3.out.ownGrow (vs' := cellsT ((r.num 8).items (k + 1)).1) (base := 0) (v' := v') (by
        rw [cellsT_length, items_len]
        simpa [Rst.items, cellsT] using hown) hgr (by simpa using hat)
      obtain ⟨so', sc', rfl⟩ := owns_form hown
      have A4 := hid A4
      clear hown hgr hat A3 hrow hnews hone
      go_wp2
      go_roundw
      case rel => exact ⟨k + 1, so', sc', rv2, rfl, by go_num, by omega, A4⟩
      case measure => simp [intOf]; omega
    · have el : decide ((k : Int) < (N : Int)) = false := by simp; omega
      obtain rfl : k = N := by omega
      go_wp2
      go_ret
      refine ⟨so, sc, rv', by rw [items_len]; rfl, ?_⟩
      rw [items_len]
      exact AR.out

theorem rot4 (a b c d : Comp) (cs : List Comp) : List.Perm (a :: b :: c :: d :: cs) (d :: c :: a :: b :: cs) := by
  have h1 : List.Perm ([a, b] ++ [c, d]) ([c, d] ++ [a, b]) := List.perm_append_comm
  have h2 : List.Perm ([c, d] ++ [a, b]) ([d, c] ++ [a, b]) := (List.Perm.swap d c []).append_right _
  exact (h1.trans h2).append_right cs
theorem rot3 (a b c : Comp) (cs : List Comp) : List.Perm (a :: b :: c :: cs) (c :: a :: b :: cs) := by
  have h1 : List.Perm ([a, b] ++ [c]) ([c] ++ [a, b]) := List.perm_append_comm
  exact h1.append_right cs

/-- A result as it is read. -/
structure Res where
  c : Int
  k : Int
  l : List ByteArray
def Rst.res0 (r : Rst) : Res × Rst :=
  if r.numV 4 = 0 then (⟨0, (r.num 4).numV 1099511627776, (((r.num 4).num 1099511627776).num 8 |>.items (((r.num 4).num 1099511627776).numV 8).toNat).1⟩, (((r.num 4).num 1099511627776).num 8 |>.items (((r.num 4).num 1099511627776).numV 8).toNat).2)
  else (⟨r.numV 4, 0, []⟩, r.num 4)
def Rst.resV (r : Rst) : Res := if r.res0.2.err = 0 then r.res0.1 else ⟨0, 0, []⟩
def Rst.res (r : Rst) : Rst := r.res0.2

theorem res56 {tmps : Array Value} {w : World} {b : Nat} {c k : Int} {s : Value} (ht : tmps.getD 2 undef = .pointer (some ⟨b, 0, none⟩)) (h : w.heap[b]? = some (.cells #[.int .i64 c, .int .i64 k, s] 37 (0, 0))) : (results Try.f56 tmps).run Try.prog w = .ok (resV c k s) w := by
  have hp' : tmps[2]?.getD undef = .pointer (some ⟨b, 0, none⟩) := by simpa using ht
  have hres : Try.f56.results = #[.cell 2 37] := rfl
  have x0 : w.cell? ⟨b, 0, none⟩ = some (.int .i64 c) := by rw [cell_at h]; rfl
  have x1 : w.cell? ⟨b, 1, none⟩ = some (.int .i64 k) := by rw [cell_at h]; rfl
  have x2 : w.cell? ⟨b, 2, none⟩ = some s := by rw [cell_at h]; rfl
  simp only [results, hres]
  go_simp

set_option maxHeartbeats 1600000 in
set_option maxRecDepth 1000000 in
theorem getResult_any {b : Nat} {D : Option Nat} {rv : Value} {r : Rst} {cs : List Comp} {w : World} (h : All (rdC b D rv r :: cs) w) (hp : r.size ≤ 140737488355328) :
    Calls Try.prog 56 #[.pointer (some ⟨b, 0, none⟩)] w fun e w' => ∃ so sc rv', e = .returned (resV r.resV.c r.resV.k (.slice so r.resV.l.length sc)) ∧ All (ownC 9 (.slice so r.resV.l.length sc) (cellsT r.resV.l) :: rdC b D rv' r.res :: cs) w' := by
  have HH := hid h
  have HP := hid hp
  clear h hp
  go_enter Try.func56, Try.ntmps56
  go_wp2_with fail
  refine (numRd (HH.out.addBlk [.int .i64 0, .int .i64 0, .slice none 0 0] 37).swap HP.out 4).mono ?_
  rintro e w1 ⟨rfl, rv1, A1⟩
  obtain ⟨c, hc⟩ : ∃ c, Hid (c = r.numV 4) := ⟨_, hid rfl⟩
  rw [← hc.out]
  have A2 := hid ((A1.addBlk [.int .i64 c, .int .i64 0, .slice none 0 0] 37).swap)
  clear HH A1
  by_cases h0 : c = 0
  · have F : Hid (r.res0 = (⟨0, (r.num 4).numV 1099511627776, (((r.num 4).num 1099511627776).num 8 |>.items (((r.num 4).num 1099511627776).numV 8).toNat).1⟩, (((r.num 4).num 1099511627776).num 8 |>.items (((r.num 4).num 1099511627776).numV 8).toNat).2)) := hid (by rw [Rst.res0, if_pos (by rw [← hc.out]; exact h0)])
    subst h0
    go_wp2_with fail
    refine (numRd A2.out (by have h1 := num_size r 4; have h2 := HP.out; unfold Rst.size at *; omega) 1099511627776).mono ?_
    rintro e w2 ⟨rfl, rv2, A3⟩
    obtain ⟨kk, hkk⟩ : ∃ kk, Hid (kk = (r.num 4).numV 1099511627776) := ⟨_, hid rfl⟩
    obtain ⟨r2, hr2⟩ : ∃ r2, Hid (r2 = (r.num 4).num 1099511627776) := ⟨_, hid rfl⟩
    rw [← hkk.out, ← hr2.out] at F
    rw [← hr2.out] at A3
    rw [← hkk.out]
    have A3 := hid A3
    have A4 := hid (A3.out.swap.setBlk 1 (.int .i64 kk)).swap
    clear A2
    have erx : w2.heap[w1.heap.size]? = some (.cells #[.int .i64 0, .int .i64 0, .slice none 0 0] 37 (0, 0)) := A3.out.tail.1.2.1
    have x0 : w2.cell? ⟨w1.heap.size, 0, none⟩ = some (.int .i64 0) := by rw [cell_at erx]; rfl
    have x1 : w2.cell? ⟨w1.heap.size, 1, none⟩ = some (.int .i64 0) := by rw [cell_at erx]; rfl
    have x2 : w2.cell? ⟨w1.heap.size, 2, none⟩ = some (.slice none 0 0) := by rw [cell_at erx]; rfl
    have fx0 : w2.frozen? ⟨w1.heap.size, 0, none⟩ = false := free_at erx 0
    have fx1 : w2.frozen? ⟨w1.heap.size, 1, none⟩ = false := free_at erx 1
    have fx2 : w2.frozen? ⟨w1.heap.size, 2, none⟩ = false := free_at erx 2
    clear erx
    clear A3
    go_wp2_with fail
    refine (getItems_any A4.out (by have h1 := num_size r 4; have h3 := num_size (r.num 4) 1099511627776; have h2 := HP.out; rw [hr2.out]; omega)).mono ?_
    obtain ⟨L, hL⟩ : ∃ L, Hid (L = ((r2.num 8).items (r2.numV 8).toNat).1) := ⟨_, hid rfl⟩
    obtain ⟨r3, hr3⟩ : ∃ r3, Hid (r3 = ((r2.num 8).items (r2.numV 8).toNat).2) := ⟨_, hid rfl⟩
    rw [← hL.out, ← hr3.out] at F ⊢
    rintro e w3 ⟨so, sc, rv3, rfl, A5⟩
    have A5 := hid A5
    obtain ⟨nl, hnl⟩ : ∃ nl, Hid (nl = L.length) := ⟨_, hid rfl⟩
    rw [← hnl.out] at A5 ⊢
    have A6 := hid ((A5.out.rev3.setBlk 2 (.slice so nl sc)).swap)
    clear A4 x0 x1 x2 fx0 fx1 fx2
    have erx : w3.heap[w1.heap.size]? = some (.cells #[.int .i64 0, .int .i64 kk, .slice none 0 0] 37 (0, 0)) := A5.out.tail.tail.1.2.1
    have x0 : w3.cell? ⟨w1.heap.size, 0, none⟩ = some (.int .i64 0) := by rw [cell_at erx]; rfl
    have x1 : w3.cell? ⟨w1.heap.size, 1, none⟩ = some (.int .i64 kk) := by rw [cell_at erx]; rfl
    have x2 : w3.cell? ⟨w1.heap.size, 2, none⟩ = some (.slice none 0 0) := by rw [cell_at erx]; rfl
    have fx0 : w3.frozen? ⟨w1.heap.size, 0, none⟩ = false := free_at erx 0
    have fx1 : w3.frozen? ⟨w1.heap.size, 1, none⟩ = false := free_at erx 1
    have fx2 : w3.frozen? ⟨w1.heap.size, 2, none⟩ = false := free_at erx 2
    clear erx
    clear A5
    go_wp2_with fail
    refine (wholeRd A6.out).mono ?_
    rintro e w4 ⟨rfl, A7⟩
    have A7 := hid A7
    clear A6 x0 x1 x2 fx0 fx1 fx2
    have A7 : Hid (All (rdC b D rv3 r3 :: blkC w1.heap.size [.int .i64 0, .int .i64 kk, .slice so nl sc] 37 :: ownC 9 (.slice so nl sc) (cellsT L) :: blkC w.heap.size [.int .i64 0, .int .i64 0, .slice none 0 0] 37 :: cs) w4) := A7
    have erx : w4.heap[w1.heap.size]? = some (.cells #[.int .i64 0, .int .i64 kk, .slice so nl sc] 37 (0, 0)) := A7.out.tail.1.2.1
    have x0 : w4.cell? ⟨w1.heap.size, 0, none⟩ = some (.int .i64 0) := by rw [cell_at erx]; rfl
    have x1 : w4.cell? ⟨w1.heap.size, 1, none⟩ = some (.int .i64 kk) := by rw [cell_at erx]; rfl
    have x2 : w4.cell? ⟨w1.heap.size, 2, none⟩ = some (.slice so nl sc) := by rw [cell_at erx]; rfl
    clear erx
    have err : w4.heap[w.heap.size]? = some (.cells #[.int .i64 0, .int .i64 0, .slice none 0 0] 37 (0, 0)) := A7.out.tail.tail.tail.1.2.1
    have r0 : w4.cell? ⟨w.heap.size, 0, none⟩ = some (.int .i64 0) := by rw [cell_at err]; rfl
    have r1 : w4.cell? ⟨w.heap.size, 1, none⟩ = some (.int .i64 0) := by rw [cell_at err]; rfl
    have r2 : w4.cell? ⟨w.heap.size, 2, none⟩ = some (.slice none 0 0) := by rw [cell_at err]; rfl
    have fr0 : w4.frozen? ⟨w.heap.size, 0, none⟩ = false := free_at err 0
    have fr1 : w4.frozen? ⟨w.heap.size, 1, none⟩ = false := free_at err 1
    have fr2 : w4.frozen? ⟨w.heap.size, 2, none⟩ = false := free_at err 2
    clear err
    by_cases he : r3.err = 0
    · have ee : (r3.err == 0) = true := by simpa using he
      have V : Hid (r.resV = ⟨0, kk, L⟩ ∧ r.res = r3) := hid ⟨by rw [Rst.resV, F.out, if_pos he], by rw [Rst.res, F.out]⟩
      rw [ee]
      clear he ee F
      go_wp2
      have A8 := ((((A7.out.perm (rot4 _ _ _ _ cs)).setBlk 0 (.int .i64 0)).setBlk 1 (.int .i64 kk)).setBlk 2 (.slice so nl sc))
      refine bodyPost_ret (v := resV 0 kk (.slice so nl sc)) (res56 (b := w.heap.size) rfl A8.1.2.1) rfl ?_
      refine ⟨so, sc, rv3, by rw [V.out.1, hnl.out], ?_⟩
      rw [V.out.1, V.out.2, ← hnl.out]
      exact A8.tail.sublist (.cons_cons _ (.cons_cons _ (.cons _ (.refl _))))
    · have ee : (r3.err == 0) = false := by simpa using he
      have V : Hid (r.resV = ⟨0, 0, []⟩ ∧ r.res = r3) := hid ⟨by rw [Rst.resV, F.out, if_neg he], by rw [Rst.res, F.out]⟩
      rw [ee]
      clear he ee F
      go_wp2
      have A8 := ((((A7.out.perm (rot4 _ _ _ _ cs)).setBlk 0 (.int .i64 0)).setBlk 1 (.int .i64 0)).setBlk 2 (.slice none 0 0))
      refine bodyPost_ret (v := resV 0 0 (.slice none 0 0)) (res56 (b := w.heap.size) rfl A8.1.2.1) rfl ?_
      refine ⟨none, 0, rv3, by rw [V.out.1]; rfl, ?_⟩
      rw [V.out.1, V.out.2]
      exact All.addNil (A8.tail.sublist (.cons _ (.cons_cons _ (.cons _ (.refl _)))))
  · have F : Hid (r.res0 = (⟨c, 0, []⟩, r.num 4)) := hid (by rw [Rst.res0, if_neg (by rw [← hc.out]; exact h0), hc.out])
    have ec : (c == 0) = false := by simpa using h0
    go_wp2_with fail
    refine (wholeRd A2.out).mono ?_
    rintro e w4 ⟨rfl, A7⟩
    have A7 := hid A7
    clear A2
    have erx : w4.heap[w1.heap.size]? = some (.cells #[.int .i64 c, .int .i64 0, .slice none 0 0] 37 (0, 0)) := A7.out.tail.1.2.1
    have x0 : w4.cell? ⟨w1.heap.size, 0, none⟩ = some (.int .i64 c) := by rw [cell_at erx]; rfl
    have x1 : w4.cell? ⟨w1.heap.size, 1, none⟩ = some (.int .i64 0) := by rw [cell_at erx]; rfl
    have x2 : w4.cell? ⟨w1.heap.size, 2, none⟩ = some (.slice none 0 0) := by rw [cell_at erx]; rfl
    clear erx
    have err : w4.heap[w.heap.size]? = some (.cells #[.int .i64 0, .int .i64 0, .slice none 0 0] 37 (0, 0)) := A7.out.tail.tail.1.2.1
    have r0 : w4.cell? ⟨w.heap.size, 0, none⟩ = some (.int .i64 0) := by rw [cell_at err]; rfl
    have r1 : w4.cell? ⟨w.heap.size, 1, none⟩ = some (.int .i64 0) := by rw [cell_at err]; rfl
    have r2 : w4.cell? ⟨w.heap.size, 2, none⟩ = some (.slice none 0 0) := by rw [cell_at err]; rfl
    have fr0 : w4.frozen? ⟨w.heap.size, 0, none⟩ = false := free_at err 0
    have fr1 : w4.frozen? ⟨w.heap.size, 1, none⟩ = false := free_at err 1
    have fr2 : w4.frozen? ⟨w.heap.size, 2, none⟩ = false := free_at err 2
    clear err
    by_cases he : (r.num 4).err = 0
    · have ee : ((r.num 4).err == 0) = true := by simpa using he
      have V : Hid (r.resV = ⟨c, 0, []⟩ ∧ r.res = r.num 4) := hid ⟨by rw [Rst.resV, F.out, if_pos he], by rw [Rst.res, F.out]⟩
      rw [ee]
      clear he ee F
      go_wp2
      have A8 := ((((A7.out.perm (rot3 _ _ _ cs)).setBlk 0 (.int .i64 c)).setBlk 1 (.int .i64 0)).setBlk 2 (.slice none 0 0))
      refine bodyPost_ret (v := resV c 0 (.slice none 0 0)) (res56 (b := w.heap.size) rfl A8.1.2.1) rfl ?_
      refine ⟨none, 0, rv1, by rw [V.out.1]; rfl, ?_⟩
      rw [V.out.1, V.out.2]
      exact All.addNil (A8.tail.sublist (.cons_cons _ (.cons _ (.refl _))))
    · have ee : ((r.num 4).err == 0) = false := by simpa using he
      have V : Hid (r.resV = ⟨0, 0, []⟩ ∧ r.res = r.num 4) := hid ⟨by rw [Rst.resV, F.out, if_neg he], by rw [Rst.res, F.out]⟩
      rw [ee]
      clear he ee F
      go_wp2
      have A8 := ((((A7.out.perm (rot3 _ _ _ cs)).setBlk 0 (.int .i64 0)).setBlk 1 (.int .i64 0)).setBlk 2 (.slice none 0 0))
      refine bodyPost_ret (v := resV 0 0 (.slice none 0 0)) (res56 (b := w.heap.size) rfl A8.1.2.1) rfl ?_
      refine ⟨none, 0, rv1, by rw [V.out.1]; rfl, ?_⟩
      rw [V.out.1, V.out.2]
      exact All.addNil (A8.tail.sublist (.cons_cons _ (.cons _ (.refl _))))

end Go.Proofs.Ytagdpfghooogfaa

namespace Go.Proofs.Ytagdpfghooogfaa
open Go.RowKit
set_option linter.unusedVariables false

theorem newRd {s : Value} {l : List UInt8} {cs : List Comp} {w : World} (h : All cs w) (hr : Reads w s l) (hlen : l.length ≤ 140737488355328) : Calls Try.prog 54 #[s] w fun e w' => ∃ b D rv, e = .returned (.pointer (some ⟨b, 0, none⟩)) ∧ All (rdC b D rv ⟨l, 0, 0⟩ :: cs) w' :=
  (NewReader_any hr hlen).mono fun e w' ⟨b, D, rv, h1, h2, h3, h4, h5⟩ => ⟨b, D, rv, h1, h.add (Fr.below h3) (rdC_good _ _ _ _) h2 (fun k hk => by
    simp only [rdC, List.mem_cons, Option.mem_toList] at hk
    rcases hk with rfl | hk
    · exact ⟨h4, h2.lt⟩
    · exact h5 k hk)⟩

def Rst.close (r : Rst) : Int := if r.rs = [] then r.err else keepE r.err 15
theorem closeRd {b : Nat} {D : Option Nat} {rv : Value} {r : Rst} {cs : List Comp} {w : World} (h : All (rdC b D rv r :: cs) w) : Calls Try.prog 57 #[.pointer (some ⟨b, 0, none⟩)] w fun e w' => e = .returned (.int .i64 r.close) ∧ ∃ rv', All (rdC b D rv' ⟨[], r.place, r.close⟩ :: cs) w' :=
  (Close_any h.1.2.1).mono fun e w' ⟨h1, ⟨rv', h2⟩, h3⟩ => ⟨h1, rv', h.rstep h2 h3⟩

/-- A row, as it is read. -/
structure Rw where
  n : Int
  a : Int
  c : Int
  k : Int
  l : List ByteArray
abbrev M40 : Int := 1099511627776
def rst0 (bs : List UInt8) : Rst := ⟨bs, 0, 0⟩
def rowR (bs : List UInt8) : Rw := ⟨(rst0 bs).numV 1099511627776, ((rst0 bs).num 1099511627776).numV 1099511627776, (((rst0 bs).num 1099511627776).num 1099511627776).resV.c, (((rst0 bs).num 1099511627776).num 1099511627776).resV.k, (((rst0 bs).num 1099511627776).num 1099511627776).resV.l⟩
def rowE (bs : List UInt8) : Int := (((rst0 bs).num 1099511627776).num 1099511627776).res.close
def rowOk (bs : List UInt8) : Bool := rowE bs == 0 && may (rowR bs).n (rowR bs).a (rowR bs).c (rowR bs).k (rowR bs).l

theorem resV_len (q : Rst) : q.resV.l.length ≤ 9223372036854775807 := by
  unfold Rst.resV
  split
  · unfold Rst.res0
    split
    · simp only [items_len]
      have h1 := numR_le ((q.num 4).num 1099511627776).rs 8 13 (by omega)
      unfold Rst.numV
      omega
    · simp
  · simp

theorem res41 {tmps : Array Value} {w : World} {b : Nat} {n a c k : Int} {s v : Value} (ht : tmps.getD 2 undef = .pointer (some ⟨b, 0, none⟩)) (hv : tmps.getD 3 undef = v) (h : w.heap[b]? = some (.cells #[.int .i64 n, .int .i64 a, .int .i64 c, .int .i64 k, s] 39 (0, 0))) : (results Try.f41 tmps).run Try.prog w = .ok (.tuple #[rowV n a c k s, v]) w := by
  have hp' : tmps[2]?.getD undef = .pointer (some ⟨b, 0, none⟩) := by simpa using ht
  have hv' : tmps[3]?.getD undef = v := by simpa using hv
  have hres : Try.f41.results = #[.cell 2 39, .tmp 3] := rfl
  have x0 : w.cell? ⟨b, 0, none⟩ = some (.int .i64 n) := by rw [cell_at h]; rfl
  have x1 : w.cell? ⟨b, 1, none⟩ = some (.int .i64 a) := by rw [cell_at h]; rfl
  have x2 : w.cell? ⟨b, 2, none⟩ = some (.int .i64 c) := by rw [cell_at h]; rfl
  have x3 : w.cell? ⟨b, 3, none⟩ = some (.int .i64 k) := by rw [cell_at h]; rfl
  have x4 : w.cell? ⟨b, 4, none⟩ = some s := by rw [cell_at h]; rfl
  simp only [results, hres]
  go_simp

set_option maxHeartbeats 1600000 in
set_option maxRecDepth 1000000 in
theorem readRow_any {s : Value} {bs : List UInt8} {cs : List Comp} {w : World} (h : All cs w) (hr : Reads w s bs) (hlen : bs.length ≤ 140737488355328) :
    Calls Try.prog 41 #[s] w fun e w' => (rowOk bs = false ∧ e = .returned (.tuple #[rowV 0 0 0 0 (.slice none 0 0), .bool false]) ∧ All cs w') ∨
      (rowOk bs = true ∧ ∃ so sc, e = .returned (.tuple #[rowV (rowR bs).n (rowR bs).a (rowR bs).c (rowR bs).k (.slice so (rowR bs).l.length sc), .bool true]) ∧ All (ownC 9 (.slice so (rowR bs).l.length sc) (cellsT (rowR bs).l) :: cs) w') := by
  obtain ⟨ao, cp, rfl⟩ := hr.form
  have A0 := hid (h.addBlk [.int .i64 0, .int .i64 0, .int .i64 0, .int .i64 0, .slice none 0 0] 39)
  have HR := hid hr
  clear h hr
  go_enter Try.func41, Try.ntmps41
  go_wp2_with fail
  refine (newRd A0.out (HR.out.below (ba _ _)) hlen).mono ?_
  rintro e w1 ⟨b, D, rv1, rfl, A1⟩
  have A1 := hid A1
  clear A0 HR
  go_wp2_with fail
  refine (numRd A1.out (by simpa using hlen) 1099511627776).mono ?_
  rintro e w2 ⟨rfl, rv2, A2⟩
  have A2 := hid A2
  clear A1
  go_wp2_with fail
  refine (numRd A2.out (by have h1 := num_size (rst0 bs) 1099511627776; unfold Rst.size rst0 at h1; simp only at h1; omega) 1099511627776).mono ?_
  rintro e w3 ⟨rfl, rv3, A3⟩
  have A3 := hid A3
  clear A2
  go_wp2_with fail
  refine (getResult_any A3.out (by have h1 := num_size (rst0 bs) 1099511627776; have h2 := num_size ((rst0 bs).num 1099511627776) 1099511627776; have h3 : (rst0 bs).size ≤ 140737488355328 := (by unfold Rst.size rst0; simpa using hlen); unfold rst0 at h1 h2 h3; omega)).mono ?_
  rintro e w4 ⟨so, sc, rv4, rfl, A4⟩
  obtain ⟨X, hX⟩ : ∃ X, Hid (X = rowR bs) := ⟨_, hid rfl⟩
  have X1 : (⟨bs, 0, 0⟩ : Rst).numV 1099511627776 = X.n := by rw [hX.out]; rfl
  have X2 : ((⟨bs, 0, 0⟩ : Rst).num 1099511627776).numV 1099511627776 = X.a := by rw [hX.out]; rfl
  have X3 : (((⟨bs, 0, 0⟩ : Rst).num 1099511627776).num 1099511627776).resV = ⟨X.c, X.k, X.l⟩ := by rw [hX.out]; rfl
  obtain ⟨q4, hq4⟩ : ∃ q4, Hid (q4 = (((rst0 bs).num 1099511627776).num 1099511627776).res) := ⟨_, hid rfl⟩
  rw [show (((⟨bs, 0, 0⟩ : Rst).num 1099511627776).num 1099511627776).res = q4 from hq4.out.symm, X3] at A4
  rw [X1, X2, X3]
  have E4 : Hid (rowOk bs = (q4.close == 0 && may X.n X.a X.c X.k X.l)) := hid (by rw [hX.out, hq4.out]; rfl)
  simp only at A4 ⊢
  obtain ⟨nl, hnl⟩ : ∃ nl, Hid (nl = X.l.length) := ⟨_, hid rfl⟩
  rw [← hnl.out] at A4 ⊢
  have A5 := hid (A4.addBlk [.int .i64 X.n, .int .i64 X.a, .int .i64 X.c, .int .i64 X.k, .slice so nl sc] 39)
  have HL : Hid (X.l.length ≤ 9223372036854775807) := hid (by
    have : X.l = (((rst0 bs).num 1099511627776).num 1099511627776).resV.l := by rw [hX.out]; rfl
    rw [this]
    generalize ((rst0 bs).num 1099511627776).num 1099511627776 = q
    exact resV_len q)
  clear A3 A4 X1 X2 X3
  go_wp2_with fail
  refine (closeRd A5.out.rev3).mono ?_
  rintro e w5 ⟨rfl, rv5, A6⟩
  have A6 := hid A6
  obtain ⟨ck, hck⟩ : ∃ ck, Hid (ck = q4.close) := ⟨_, hid rfl⟩
  rw [← hck.out] at A6 E4 ⊢
  clear A5
  have erx : w5.heap[w4.heap.size]? = some (.cells #[.int .i64 X.n, .int .i64 X.a, .int .i64 X.c, .int .i64 X.k, .slice so nl sc] 39 (0, 0)) := A6.out.tail.tail.1.2.1
  have x0 : w5.cell? ⟨w4.heap.size, 0, none⟩ = some (.int .i64 X.n) := by rw [cell_at erx]; rfl
  have x1 : w5.cell? ⟨w4.heap.size, 1, none⟩ = some (.int .i64 X.a) := by rw [cell_at erx]; rfl
  have x2 : w5.cell? ⟨w4.heap.size, 2, none⟩ = some (.int .i64 X.c) := by rw [cell_at erx]; rfl
  have x3 : w5.cell? ⟨w4.heap.size, 3, none⟩ = some (.int .i64 X.k) := by rw [cell_at erx]; rfl
  have x4 : w5.cell? ⟨w4.heap.size, 4, none⟩ = some (.slice so nl sc) := by rw [cell_at erx]; rfl
  clear erx
  have err : w5.heap[w.heap.size]? = some (.cells #[.int .i64 0, .int .i64 0, .int .i64 0, .int .i64 0, .slice none 0 0] 39 (0, 0)) := A6.out.tail.tail.tail.1.2.1
  have r0 : w5.cell? ⟨w.heap.size, 0, none⟩ = some (.int .i64 0) := by rw [cell_at err]; rfl
  have r1 : w5.cell? ⟨w.heap.size, 1, none⟩ = some (.int .i64 0) := by rw [cell_at err]; rfl
  have r2 : w5.cell? ⟨w.heap.size, 2, none⟩ = some (.int .i64 0) := by rw [cell_at err]; rfl
  have r3 : w5.cell? ⟨w.heap.size, 3, none⟩ = some (.int .i64 0) := by rw [cell_at err]; rfl
  have r4 : w5.cell? ⟨w.heap.size, 4, none⟩ = some (.slice none 0 0) := by rw [cell_at err]; rfl
  have fr0 : w5.frozen? ⟨w.heap.size, 0, none⟩ = false := free_at err 0
  have fr1 : w5.frozen? ⟨w.heap.size, 1, none⟩ = false := free_at err 1
  have fr2 : w5.frozen? ⟨w.heap.size, 2, none⟩ = false := free_at err 2
  have fr3 : w5.frozen? ⟨w.heap.size, 3, none⟩ = false := free_at err 3
  have fr4 : w5.frozen? ⟨w.heap.size, 4, none⟩ = false := free_at err 4
  clear err
  by_cases hc : ck = 0
  case neg =>
    have ec : (ck != 0) = true := by simpa using hc
    have V : Hid (rowOk bs = false) := hid (by rw [E4.out, show (ck == 0) = false by simpa using hc]; rfl)
    go_wp2
    have A8 := ((((((A6.out.perm (rot4 _ _ _ _ cs)).setBlk 0 (.int .i64 0)).setBlk 1 (.int .i64 0)).setBlk 2 (.int .i64 0)).setBlk 3 (.int .i64 0)).setBlk 4 (.slice none 0 0))
    refine bodyPost_ret (v := .tuple #[rowV 0 0 0 0 (.slice none 0 0), .bool false]) (res41 (b := w.heap.size) rfl rfl A8.1.2.1) rfl ?_
    exact .inl ⟨V.out, rfl, A8.tail.tail.tail.tail⟩
  subst hc
  have HT : Hid (Txts w5 (.slice so nl sc) X.l) := hid (Txts.of_owns (base := 0) (by
    have h2 : w5.ownsRow 0 9 1 (.slice so nl sc) (cellsT X.l).length (cellsT X.l) := A6.out.tail.1.2.1
    rw [cellsT_length] at h2; exact h2))
  go_wp2_with fail
  refine (mayBe_any X.n X.a X.c X.k HT.out HL.out).mono ?_
  rintro e w6 ⟨rfl, B6⟩
  have A6 := hid (A6.out.later B6)
  clear HT B6 x0 x1 x2 x3 x4 r0 r1 r2 r3 r4 fr0 fr1 fr2 fr3 fr4
  have erx : w6.heap[w4.heap.size]? = some (.cells #[.int .i64 X.n, .int .i64 X.a, .int .i64 X.c, .int .i64 X.k, .slice so nl sc] 39 (0, 0)) := A6.out.tail.tail.1.2.1
  have x0 : w6.cell? ⟨w4.heap.size, 0, none⟩ = some (.int .i64 X.n) := by rw [cell_at erx]; rfl
  have x1 : w6.cell? ⟨w4.heap.size, 1, none⟩ = some (.int .i64 X.a) := by rw [cell_at erx]; rfl
  have x2 : w6.cell? ⟨w4.heap.size, 2, none⟩ = some (.int .i64 X.c) := by rw [cell_at erx]; rfl
  have x3 : w6.cell? ⟨w4.heap.size, 3, none⟩ = some (.int .i64 X.k) := by rw [cell_at erx]; rfl
  have x4 : w6.cell? ⟨w4.heap.size, 4, none⟩ = some (.slice so nl sc) := by rw [cell_at erx]; rfl
  clear erx
  have err : w6.heap[w.heap.size]? = some (.cells #[.int .i64 0, .int .i64 0, .int .i64 0, .int .i64 0, .slice none 0 0] 39 (0, 0)) := A6.out.tail.tail.tail.1.2.1
  have r0 : w6.cell? ⟨w.heap.size, 0, none⟩ = some (.int .i64 0) := by rw [cell_at err]; rfl
  have r1 : w6.cell? ⟨w.heap.size, 1, none⟩ = some (.int .i64 0) := by rw [cell_at err]; rfl
  have r2 : w6.cell? ⟨w.heap.size, 2, none⟩ = some (.int .i64 0) := by rw [cell_at err]; rfl
  have r3 : w6.cell? ⟨w.heap.size, 3, none⟩ = some (.int .i64 0) := by rw [cell_at err]; rfl
  have r4 : w6.cell? ⟨w.heap.size, 4, none⟩ = some (.slice none 0 0) := by rw [cell_at err]; rfl
  have fr0 : w6.frozen? ⟨w.heap.size, 0, none⟩ = false := free_at err 0
  have fr1 : w6.frozen? ⟨w.heap.size, 1, none⟩ = false := free_at err 1
  have fr2 : w6.frozen? ⟨w.heap.size, 2, none⟩ = false := free_at err 2
  have fr3 : w6.frozen? ⟨w.heap.size, 3, none⟩ = false := free_at err 3
  have fr4 : w6.frozen? ⟨w.heap.size, 4, none⟩ = false := free_at err 4
  clear err
  by_cases hm : may X.n X.a X.c X.k X.l = true
  case neg =>
    have hm' : may X.n X.a X.c X.k X.l = false := by simpa using hm
    rw [hm']
    have V : Hid (rowOk bs = false) := hid (by rw [E4.out]; rw [hm']; rfl)
    go_wp2
    have A8 := ((((((A6.out.perm (rot4 _ _ _ _ cs)).setBlk 0 (.int .i64 0)).setBlk 1 (.int .i64 0)).setBlk 2 (.int .i64 0)).setBlk 3 (.int .i64 0)).setBlk 4 (.slice none 0 0))
    refine bodyPost_ret (v := .tuple #[rowV 0 0 0 0 (.slice none 0 0), .bool false]) (res41 (b := w.heap.size) rfl rfl A8.1.2.1) rfl ?_
    exact .inl ⟨V.out, rfl, A8.tail.tail.tail.tail⟩
  rw [hm]
  have V : Hid (rowOk bs = true) := hid (by rw [E4.out, hm]; rfl)
  clear hm E4
  go_wp2
  have A8 := ((((((A6.out.perm (rot4 _ _ _ _ cs)).setBlk 0 (.int .i64 X.n)).setBlk 1 (.int .i64 X.a)).setBlk 2 (.int .i64 X.c)).setBlk 3 (.int .i64 X.k)).setBlk 4 (.slice so nl sc))
  refine bodyPost_ret (v := .tuple #[rowV X.n X.a X.c X.k (.slice so nl sc), .bool true]) (res41 (b := w.heap.size) rfl rfl A8.1.2.1) rfl ?_
  refine .inr ⟨V.out, so, sc, ?_, ?_⟩
  · rw [← hX.out, ← hnl.out]
  · rw [← hX.out, ← hnl.out]
    exact A8.tail.sublist (by first | exact .cons _ (.cons_cons _ (.cons _ (.refl _))) | exact .cons _ (.cons _ (.cons_cons _ (.refl _))))

end Go.Proofs.Ytagdpfghooogfaa

namespace Go.Proofs.Ytagdpfghooogfaa
open Go.RowKit
set_option linter.unusedVariables false

/-- Lists of bytes that are read. -/
def Lists (w : World) (s : Value) (ls : List (List UInt8)) : Prop :=
  ∃ ao c, s = .slice ao ls.length c ∧ ∀ j (h : j < ls.length), ∃ g o v, ao = some ⟨g, o, none⟩ ∧ g < w.heap.size ∧ w.cell? ⟨g, o + j, none⟩ = some v ∧ Reads w v ls[j]
theorem Lists.form {w : World} {s : Value} {ls : List (List UInt8)} (h : Lists w s ls) : ∃ ao c, s = .slice ao ls.length c := by obtain ⟨ao, c, e, _⟩ := h; exact ⟨ao, c, e⟩
theorem Lists.at {w : World} {ao : Option Addr} {n c : Nat} {ls : List (List UInt8)} (h : Lists w (.slice ao n c) ls) {j : Nat} (hj : j < ls.length) : ∃ g o v, ao = some ⟨g, o, none⟩ ∧ g < w.heap.size ∧ w.cell? ⟨g, o + j, none⟩ = some v ∧ Reads w v ls[j] := by
  obtain ⟨ao', c', e, hx⟩ := h
  simp only [Value.slice.injEq] at e
  obtain ⟨rfl, _, _⟩ := e
  exact hx j hj

/-- The place that bytes make. -/
def PlOf (l : List UInt8) (p : Pl) : Prop := (l = [] ∧ p = .zero) ∨ (l ≠ [] ∧ rowOk l = true ∧ p.on = true ∧ p.n = (rowR l).n ∧ p.a = (rowR l).a ∧ p.c = (rowR l).c ∧ p.k = (rowR l).k ∧ p.l = (rowR l).l)
/-- Places, up to k made of lists. -/
def Upto (ls : List (List UInt8)) (k : Nat) (ps : List Pl) : Prop := ps.length = 8 ∧ (∀ i p, ps[i]? = some p → (k ≤ i → p = .zero) ∧ (i < k → ∀ l, ls[i]? = some l → PlOf l p))

theorem Upto.skip {ls : List (List UInt8)} {k : Nat} {ps : List Pl} (h : Upto ls k ps) (hk : ls[k]? = some []) : Upto ls (k + 1) ps := by
  refine ⟨h.1, fun i p hp => ⟨fun hi => (h.2 i p hp).1 (by omega), fun hi l hl => ?_⟩⟩
  rcases Nat.lt_or_ge i k with h1 | h1
  · exact (h.2 i p hp).2 h1 l hl
  · obtain rfl : i = k := by omega
    rw [hk] at hl
    cases hl
    exact .inl ⟨rfl, (h.2 i p hp).1 (Nat.le_refl _)⟩
theorem Upto.put {ls : List (List UInt8)} {k : Nat} {ps : List Pl} (h : Upto ls k ps) {l : List UInt8} (hk : ls[k]? = some l) (hne : l ≠ []) (hok : rowOk l = true) (s : Value) : Upto ls (k + 1) (ps.set k ⟨true, (rowR l).n, (rowR l).a, (rowR l).c, (rowR l).k, s, (rowR l).l⟩) := by
  refine ⟨by simpa using h.1, fun i p hp => ?_⟩
  by_cases e : i = k
  · subst e
    refine ⟨fun hi => by omega, fun _ l' hl => ?_⟩
    rw [hk] at hl
    cases hl
    have hlt : i < ps.length := by
      have := (List.getElem?_eq_some_iff.1 hp).1
      simpa using this
    rw [List.getElem?_set_self hlt] at hp
    cases hp
    exact .inr ⟨hne, hok, rfl, rfl, rfl, rfl, rfl, rfl⟩
  · rw [List.getElem?_set_ne (Ne.symm e)] at hp
    exact ⟨fun hi => (h.2 i p hp).1 (by omega), fun hi => (h.2 i p hp).2 (by omega)⟩

def loadOk (ls : List (List UInt8)) : Prop := ls.length = 8 ∧ ∀ l ∈ ls, l = [] ∨ rowOk l = true

/-- A place is set. -/
theorem All.putPlace {g i : Nat} {ps : List Pl} {p : Pl} {cs : List Comp} {w : World} {n a c k : Int} {s : Value} {l : List ByteArray} (h : All (ownC 9 s (cellsT l) :: (rollL g ps ++ cs)) w) (hp : ps[i]? = some p) :
    All (rollL g (ps.set i ⟨true, n, a, c, k, s, l⟩) ++ cs) ((((((w.setCell ⟨g, i * 6, none⟩ (.bool true)).setCell ⟨g, i * 6 + 1, none⟩ (.int .i64 n)).setCell ⟨g, i * 6 + 2, none⟩ (.int .i64 a)).setCell ⟨g, i * 6 + 3, none⟩ (.int .i64 c)).setCell ⟨g, i * 6 + 4, none⟩ (.int .i64 k)).setCell ⟨g, i * 6 + 5, none⟩ s) := by
  have A6 : All (blkC g (flatP ps) 69 :: (ownC 9 s (cellsT l) :: (ps.map Pl.part ++ cs))) w := by
    refine All.perm ?_ h
    simp only [rollL, List.cons_append]
    exact List.Perm.swap _ _ _
  have A7 := (((((A6.setBlk (i * 6) (.bool true)).setBlk (i * 6 + 1) (.int .i64 n)).setBlk (i * 6 + 2) (.int .i64 a)).setBlk (i * 6 + 3) (.int .i64 c)).setBlk (i * 6 + 4) (.int .i64 k)).setBlk (i * 6 + 5) s
  have eq := flatP_set (q := ⟨true, n, a, c, k, s, l⟩) hp
  simp only at eq
  rw [eq] at A7
  have A8 := All.setPart (i := i) (L := ps.map Pl.part) (cs := cs) (by simp; exact (List.getElem?_eq_some_iff.1 hp).1) A7.tail
  have h9 : All (blkC g (flatP (ps.set i ⟨true, n, a, c, k, s, l⟩)) 69 :: ((ps.map Pl.part).set i (ownC 9 s (cellsT l)) ++ cs)) _ := ⟨A7.1, fun d hd => A7.2.1 d (by
    rcases List.mem_append.1 hd with hd | hd
    · rcases List.mem_or_eq_of_mem_set hd with hd | rfl
      · exact List.mem_cons_of_mem _ (List.mem_append_left _ hd)
      · exact List.mem_cons_self
    · exact List.mem_cons_of_mem _ (List.mem_append_right _ hd)), A8⟩
  simp only [rollL, List.cons_append, List.map_set]
  exact h9

set_option maxHeartbeats 1600000 in
set_option maxRecDepth 1000000 in
theorem load_any {s : Value} {ls : List (List UInt8)} {cs : List Comp} {w : World} (h : All cs w) (hT : ∀ w', All cs w' → Lists w' s ls) (hlen : ls.length ≤ 140737488355328) (hlens : ∀ l ∈ ls, l.length ≤ 140737488355328) :
    Calls Try.prog 25 #[s] w fun e w' => (¬ loadOk ls ∧ e = .returned (.tuple #[.pointer none, .int .i64 72]) ∧ All cs w') ∨
      (loadOk ls ∧ ∃ g ps, e = .returned (.tuple #[.pointer (some ⟨g, 0, none⟩), .int .i64 0]) ∧ Upto ls 8 ps ∧ All (rollL g ps ++ cs) w') := by
  obtain ⟨ao, cp, rfl⟩ := (hT w h).form
  have HA := hid h
  have HT := hid hT
  have HL := hid hlens
  clear h hT hlens
  by_cases h8 : ls.length = 8
  case neg =>
    have e8 : ((ls.length : Int) != 8) = true := by simp; omega
    have F : Hid (¬ loadOk ls) := hid (fun hh => h8 hh.1)
    go_enter Try.func25, Try.ntmps25
    go_wp2_with fail
    refine (new_any HA.out).mono ?_
    rintro e w1 ⟨g, rfl, A1⟩
    have A1 := hid A1
    clear HA
    go_wp2
    go_ret2
    exact .inl ⟨F.out, rfl, A1.out.sublist (List.sublist_append_right _ _)⟩
  have H8 := hid h8
  rw [h8]
  clear h8 hlen
  go_enter Try.func25, Try.ntmps25
  go_wp2_with fail
  refine (new_any HA.out).mono ?_
  rintro e w1 ⟨g, rfl, A1⟩
  have A1 := hid A1
  clear HA
  go_wp2
  go_loopw [15] (fun iv wr => ∃ (k : Nat) (ps : List Pl), iv = .int .i64 (k : Int) ∧ k ≤ 8 ∧ Hid (Upto ls k ps ∧ (∀ i l, i < k → ls[i]? = some l → l = [] ∨ rowOk l = true) ∧ All (rollL g ps ++ cs) wr)) (fun iv _ => 8 - (intOf iv).toNat)
  case atStart => exact ⟨0, _, rfl, by omega, hid ⟨⟨rfl, fun i p hp => ⟨fun _ => (List.eq_of_mem_replicate (List.mem_of_getElem? hp)), fun h => by omega⟩⟩, fun i l h => by omega, A1.out⟩⟩
  case round =>
    obtain ⟨k, ps, rfl, hk, HI⟩ := hrel
    clear A1
    by_cases hlt : k < 8
    case neg =>
      obtain rfl : k = 8 := by omega
      go_wp2
      go_ret2
      refine .inr ⟨⟨H8.out, fun l hl => ?_⟩, g, ps, rfl, HI.out.1, HI.out.2.2⟩
      obtain ⟨i, hi, rfl⟩ := List.getElem_of_mem hl
      exact HI.out.2.1 i _ (by rw [← H8.out]; exact hi) (List.getElem?_eq_getElem hi)
    have el : decide ((k : Int) < 8) = true := by simp; omega
    have hkl : k < ls.length := by rw [H8.out]; exact hlt
    obtain ⟨l, hl⟩ : ∃ l, Hid (l = ls[k]) := ⟨_, hid rfl⟩
    have HLk : Hid (ls[k]? = some l) := hid (by rw [List.getElem?_eq_getElem hkl, hl.out])
    have HLl : Hid (l.length ≤ 140737488355328) := hid (HL.out l (List.mem_of_getElem? HLk.out))
    have hAcs := HI.out.2.2.sublist (List.sublist_append_right _ _)
    obtain ⟨gl, ol, vl, ea, hgl, hcell, hrd⟩ := (HT.out wr hAcs).at hkl
    rw [← hl.out] at hrd
    obtain ⟨al, cl, rfl⟩ := hrd.form
    subst ea
    have HR := hid hrd
    clear hAcs hrd hl hkl
    by_cases hz : l = []
    · subst hz
      simp only [List.length_nil] at hcell HR
      go_wp2
      go_roundw
      case rel => exact ⟨k + 1, ps, by go_num, by omega, hid ⟨HI.out.1.skip HLk.out, fun i l' hi hl' => by
        rcases Nat.lt_or_ge i k with h1 | h1
        · exact HI.out.2.1 i l' h1 hl'
        · obtain rfl : i = k := by omega
          rw [HLk.out] at hl'
          cases hl'
          exact .inl rfl, HI.out.2.2⟩⟩
      case measure => simp [intOf]; omega
    have HZ := hid hz
    obtain ⟨ll, hll⟩ : ∃ ll, Hid (ll = l.length) := ⟨_, hid rfl⟩
    rw [← hll.out] at hcell HR
    have e0 : ((ll : Int) == 0) = false := by
      have : l.length ≠ 0 := fun h => hz (List.eq_nil_of_length_eq_zero h)
      rw [beq_eq_false_iff_ne, hll.out]; omega
    clear hz
    go_wp2_with fail
    refine (readRow_any HI.out.2.2 HR.out HLl.out).mono ?_
    rintro e w2 (⟨hbad, rfl, A2⟩ | ⟨hgood, so, sc, rfl, A2⟩)
    · have F : Hid (¬ loadOk ls) := hid (fun hh => by
        rcases hh.2 l (List.mem_of_getElem? HLk.out) with h | h
        · exact HZ.out h
        · rw [hbad] at h; cases h)
      have A2 := hid A2
      have A2' := hid (A2.out.alloc (.cells #[.int .i64 0, .int .i64 0, .int .i64 0, .int .i64 0, .slice none 0 0] 39))
      clear HI hbad HR A2
      go_wp2
      go_ret2
      exact .inl ⟨F.out, rfl, A2'.out.sublist (List.sublist_append_right _ _)⟩
    · have A2 := hid A2
      have HG := hid hgood
      clear HR hgood
      obtain ⟨X, hX⟩ : ∃ X, Hid (X = rowR l) := ⟨_, hid rfl⟩
      rw [← hX.out] at A2 ⊢
      obtain ⟨nl, hnl⟩ : ∃ nl, Hid (nl = X.l.length) := ⟨_, hid rfl⟩
      rw [← hnl.out] at A2 ⊢
      have A3 := hid (A2.out.addBlk [.int .i64 X.n, .int .i64 X.a, .int .i64 X.c, .int .i64 X.k, .slice so nl sc] 39)
      clear A2
      go_wp2_with fail
      generalize hw3 : w2.alloc (.cells #[.int .i64 X.n, .int .i64 X.a, .int .i64 X.c, .int .i64 X.k, .slice so nl sc] 39) = w3
      rw [show w2.alloc (.cells [.int .i64 X.n, .int .i64 X.a, .int .i64 X.c, .int .i64 X.k, .slice so nl sc].toArray 39) = w3 from hw3] at A3
      clear hw3
      have hk8 : k < ps.length := by rw [HI.out.1.1]; exact hlt
      obtain ⟨p, hp⟩ : ∃ p, ps[k]? = some p := ⟨_, List.getElem?_eq_getElem hk8⟩
      obtain ⟨hg2, hTp⟩ := A3.out.tail.tail.place hp
      obtain ⟨c0, c1, c2, c3, c4, c5⟩ := cells5 hg2 hp
      obtain ⟨aop, cpp, e5⟩ := hTp.form
      rw [e5] at c5
      have hgl2 : g < w3.heap.size := (Array.getElem?_eq_some_iff.1 hg2).1
      have fz : ∀ j, w3.frozen? ⟨g, j, none⟩ = false := fun j => free_at hg2 j
      have erx : w3.heap[w2.heap.size]? = some (.cells #[.int .i64 X.n, .int .i64 X.a, .int .i64 X.c, .int .i64 X.k, .slice so nl sc] 39 (0, 0)) := A3.out.1.2.1
      have x0 : w3.cell? ⟨w2.heap.size, 0, none⟩ = some (.int .i64 X.n) := by rw [cell_at erx]; rfl
      have x1 : w3.cell? ⟨w2.heap.size, 1, none⟩ = some (.int .i64 X.a) := by rw [cell_at erx]; rfl
      have x2 : w3.cell? ⟨w2.heap.size, 2, none⟩ = some (.int .i64 X.c) := by rw [cell_at erx]; rfl
      have x3 : w3.cell? ⟨w2.heap.size, 3, none⟩ = some (.int .i64 X.k) := by rw [cell_at erx]; rfl
      have x4 : w3.cell? ⟨w2.heap.size, 4, none⟩ = some (.slice so nl sc) := by rw [cell_at erx]; rfl
      have HP := hid hp
      have hkI : (k : Int) < 8 := by omega
      clear hp hg2 hTp hk8 erx
      go_region
      have A4 := hid (All.putPlace (n := X.n) (a := X.a) (c := X.c) (k := X.k) (l := X.l) (A3.out.sublist (.cons _ (.refl _))) HP.out).drew
      clear A3 c0 c1 c2 c3 c4 c5 fz x0 x1 x2 x3 x4
      go_wp2
      go_roundw
      case rel =>
        refine ⟨k + 1, _, by go_num, by omega, hid ⟨?_, fun i l' hi hl' => ?_, A4.out⟩⟩
        · rw [hX.out]
          exact HI.out.1.put HLk.out HZ.out HG.out _
        · rcases Nat.lt_or_ge i k with h1 | h1
          · exact HI.out.2.1 i l' h1 hl'
          · obtain rfl : i = k := by omega
            rw [HLk.out] at hl'
            cases hl'
            exact .inr HG.out
      case measure => simp [intOf]; omega

end Go.Proofs.Ytagdpfghooogfaa

namespace Go.Proofs.Ytagdpfghooogfaa
open Go.RowKit
set_option linter.unusedVariables false

theorem num_enc (n : Nat) (hn : n < 9223372036854775808) (rest : List UInt8) (pl : Nat) (err most : Int) (hm : (n : Int) ≤ most) : (⟨enc 9 n ++ rest, pl, err⟩ : Rst).numV most = n ∧ (⟨enc 9 n ++ rest, pl, err⟩ : Rst).num most = ⟨rest, pl + (enc 9 n).length, err⟩ := by
  have h := numR_enc n hn rest most 13 hm
  constructor
  · simp only [Rst.numV, h]
  · simp only [Rst.num, h, Rst.aft, aft]
    simp

theorem strB_self (s : ByteArray) : strB s.data.toList = s := by cases s; simp [strB]
theorem txt_enc (s : ByteArray) (hs : s.size ≤ 64) (rest : List UInt8) (pl : Nat) (err : Int) : (⟨(enc 9 s.size ++ s.data.toList) ++ rest, pl, err⟩ : Rst).txtV 64 = s ∧ (⟨(enc 9 s.size ++ s.data.toList) ++ rest, pl, err⟩ : Rst).txt 64 = ⟨rest, pl + ((enc 9 s.size).length + s.size), err⟩ := by
  have hl := str_len s
  have h := runR_enc s.data.toList rest (by omega) 64 (by omega)
  rw [hl, ← List.append_assoc] at h
  constructor
  · simp only [Rst.txtV, h]
    exact strB_self s
  · simp only [Rst.txt, h, Rst.aft, aft, if_true]
    simp only [Rst.mk.injEq, and_true]
    have : (enc 9 s.size ++ s.data.toList).length = (enc 9 s.size).length + s.size := by rw [List.length_append, hl]
    rw [← this, List.drop_left]

theorem textsB_drop {l : List ByteArray} {k : Nat} (hk : k < l.length) : textsB (l.drop k) = (enc 9 l[k].size ++ l[k].data.toList) ++ textsB (l.drop (k + 1)) := by
  rw [List.drop_eq_getElem_cons hk, textsB, List.flatMap_cons, ← textsB]

theorem items_enc (l : List ByteArray) (hl : ∀ t ∈ l, t.size ≤ 64) (rest : List UInt8) (pl : Nat) (err : Int) : ∀ k, k ≤ l.length → ∃ pl', (⟨textsB l ++ rest, pl, err⟩ : Rst).items k = (l.take k, ⟨textsB (l.drop k) ++ rest, pl', err⟩) := by
  intro k
  induction k with
  | zero => intro _; exact ⟨pl, by simp [Rst.items]⟩
  | succ k ih =>
    intro hk
    obtain ⟨pl', h⟩ := ih (by omega)
    have hk' : k < l.length := by omega
    have ht := txt_enc l[k] (hl _ (List.getElem_mem hk')) (textsB (l.drop (k + 1)) ++ rest) pl' err
    rw [← List.append_assoc, ← textsB_drop hk'] at ht
    refine ⟨pl' + ((enc 9 l[k].size).length + l[k].size), ?_⟩
    simp only [Rst.items, h]
    rw [ht.1, ht.2, List.take_succ_eq_append_getElem hk']

theorem res_enc {c k : Int} {l : List ByteArray} (h0 : 0 ≤ c) (h1 : c ≤ 4) (h2 : 0 ≤ k) (h3 : k ≤ 1099511627776) (h4 : c ≠ 0 → k = 0 ∧ l = []) (h5 : l.length ≤ 8) (h6 : ∀ t ∈ l, t.size ≤ 64) (pl : Nat) :
    ∃ pl', (⟨enc 9 c.toNat ++ (if c = 0 then enc 9 k.toNat ++ itemsB l else []), pl, 0⟩ : Rst).res0 = (⟨c, k, l⟩, ⟨[], pl', 0⟩) := by
  have a1 := num_enc c.toNat (by omega) (if c = 0 then enc 9 k.toNat ++ itemsB l else []) pl 0 4 (by omega)
  rw [show ((c.toNat : Nat) : Int) = c by omega] at a1
  by_cases hc : c = 0
  · subst hc
    rw [if_pos rfl] at a1 ⊢
    have a2 := num_enc k.toNat (by omega) (itemsB l) (pl + (enc 9 (0 : Int).toNat).length) 0 1099511627776 (by omega)
    rw [show ((k.toNat : Nat) : Int) = k by omega] at a2
    have a3 := num_enc l.length (by omega) (textsB l) (pl + (enc 9 (0 : Int).toNat).length + (enc 9 k.toNat).length) 0 8 (by omega)
    obtain ⟨pl', a4⟩ := items_enc l h6 [] (pl + (enc 9 (0 : Int).toNat).length + (enc 9 k.toNat).length + (enc 9 l.length).length) 0 l.length (Nat.le_refl _)
    simp only [List.append_nil, List.take_length, List.drop_length] at a4
    refine ⟨pl', ?_⟩
    rw [Rst.res0, a1.1, if_pos rfl, a1.2, a2.1, a2.2]
    unfold itemsB
    rw [a3.1, a3.2, show ((l.length : Nat) : Int).toNat = l.length by simp, a4]
    simp [textsB]
  · obtain ⟨rfl, rfl⟩ := h4 hc
    rw [if_neg hc] at a1 ⊢
    refine ⟨pl + (enc 9 c.toNat).length, ?_⟩
    rw [Rst.res0, a1.1, if_neg hc, a1.2]

/-- A row's bytes are read as that row. -/
theorem row_back {n a c k : Int} {l : List ByteArray} (h : may n a c k l = true) : rowOk (rowB n a c k l) = true ∧ rowR (rowB n a c k l) = ⟨n, a, c, k, l⟩ := by
  obtain ⟨h1, h2, h3, h4, h5, h6, h7, h8, h9, h10, h11, h12⟩ := may_parts h
  have b1 := num_enc n.toNat (by omega) (enc 9 a.toNat ++ (enc 9 c.toNat ++ if c = 0 then enc 9 k.toNat ++ itemsB l else [])) 0 0 1099511627776 (by omega)
  have b2 := num_enc a.toNat (by omega) (enc 9 c.toNat ++ if c = 0 then enc 9 k.toNat ++ itemsB l else []) (0 + (enc 9 n.toNat).length) 0 1099511627776 (by omega)
  rw [show ((n.toNat : Nat) : Int) = n by omega] at b1
  rw [show ((a.toNat : Nat) : Int) = a by omega] at b2
  obtain ⟨pl', b3⟩ := res_enc h5 h6 h7 h8 h9 h10 h11 (0 + (enc 9 n.toNat).length + (enc 9 a.toNat).length)
  have e1 : (rst0 (rowB n a c k l)).num 1099511627776 = _ := b1.2
  have e1v : (rst0 (rowB n a c k l)).numV 1099511627776 = n := b1.1
  have e2 : ((rst0 (rowB n a c k l)).num 1099511627776).num 1099511627776 = _ := (congrArg (fun r => Rst.num r 1099511627776) e1).trans b2.2
  have e2v : ((rst0 (rowB n a c k l)).num 1099511627776).numV 1099511627776 = a := (congrArg (fun r => Rst.numV r 1099511627776) e1).trans b2.1
  have e3 : (((rst0 (rowB n a c k l)).num 1099511627776).num 1099511627776).resV = ⟨c, k, l⟩ := by rw [e2, Rst.resV, b3]; rfl
  have e4 : (((rst0 (rowB n a c k l)).num 1099511627776).num 1099511627776).res = ⟨[], pl', 0⟩ := by rw [e2, Rst.res, b3]
  have er : rowR (rowB n a c k l) = ⟨n, a, c, k, l⟩ := by simp only [rowR, e1v, e2v, e3]
  refine ⟨?_, er⟩
  rw [rowOk, er, rowE, e4]
  simp [Rst.close, h]

end Go.Proofs.Ytagdpfghooogfaa

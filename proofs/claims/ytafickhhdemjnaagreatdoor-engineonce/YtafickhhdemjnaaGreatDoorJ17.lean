import Derived.Test.YtafickhhdemjnaaGreatDoorRSet
import Derived.Deep.QuietTactic
import Derived.BigQuiet
namespace Go.Proofs.YtafickhhdemjnaaGreatDoor
open Go.RowKit
set_option linter.unusedVariables false

set_option maxHeartbeats 1600000 in
set_option maxRecDepth 1000000 in
theorem set_off {g i : Nat} {n a c k : Int} {s : Value} {l : List ByteArray} {ps : List Pl} {p : Pl} {cs : List Comp} {w : World} (h : All (rollL g ps ++ cs) w) (hi : i < 8) (hp : ps[i]? = some p) (hT : Txts w s l) (hl : l.length ≤ 9223372036854775807) (hl2 : l.length ≤ 1000) (hm : may n a c k l = true) (hof : p.on = false) : Calls Tryz.prog 125 #[.pointer (some ⟨g, 0, none⟩), .int .i64 (i : Int), rowV n a c k s] w fun e w' => e = .returned (.int .i64 0) ∧ ∃ s', All (rollL g (ps.set i ⟨true, n, a, c, k, s', l⟩) ++ cs) w' := by
  have e : decide ((0 : Int) ≤ (i : Int) ∧ (i : Int) < 8) = true := by simp; omega
  have hI : (i : Int) < 8 := by omega
  have HA := hid h
  have HT := hid hT
  have HM := hid hm
  have HP := hid hp
  obtain ⟨ao, cp, rfl⟩ := hT.form
  clear h hT hm hp
  go_enter Tryz.func125, Tryz.ntmps125
  go_wp2_with fail
  refine (isClient_any _).mono ?_
  rintro e w1 ⟨rfl, hw1⟩
  rw [e]
  have HA1 := hid (HA.out.addBlk [.int .i64 n, .int .i64 a, .int .i64 c, .int .i64 k, .slice ao l.length cp] 60)
  have HT1 := hid (HT.out.alloc (.cells #[.int .i64 n, .int .i64 a, .int .i64 c, .int .i64 k, .slice ao l.length cp] 60))
  rw [← hw1] at HT1
  rw [show w.alloc (.cells [.int .i64 n, .int .i64 a, .int .i64 c, .int .i64 k, .slice ao l.length cp].toArray 60) = w1 from hw1.symm] at HA1
  have er : w1.heap[w.heap.size]? = some (.cells #[.int .i64 n, .int .i64 a, .int .i64 c, .int .i64 k, .slice ao l.length cp] 60 (0, 0)) := HA1.out.1.2.1
  have r0 : w1.cell? ⟨w.heap.size, 0, none⟩ = some (.int .i64 n) := by rw [cell_at er]; rfl
  have r1 : w1.cell? ⟨w.heap.size, 1, none⟩ = some (.int .i64 a) := by rw [cell_at er]; rfl
  have r2 : w1.cell? ⟨w.heap.size, 2, none⟩ = some (.int .i64 c) := by rw [cell_at er]; rfl
  have r3 : w1.cell? ⟨w.heap.size, 3, none⟩ = some (.int .i64 k) := by rw [cell_at er]; rfl
  have r4 : w1.cell? ⟨w.heap.size, 4, none⟩ = some (.slice ao l.length cp) := by rw [cell_at er]; rfl
  clear er hw1 HA HT
  go_wp2_with fail
  refine (mayBe_any n a c k HT1.out hl).mono ?_
  rw [HM.out]
  rintro e w2 ⟨rfl, B2⟩
  have HA2 := hid (HA1.out.later B2)
  have HT2 := hid (HT1.out.later B2)
  clear HA1 B2 HT1 r0 r1 r2 r3 r4 HM
  have er : w2.heap[w.heap.size]? = some (.cells #[.int .i64 n, .int .i64 a, .int .i64 c, .int .i64 k, .slice ao l.length cp] 60 (0, 0)) := HA2.out.1.2.1
  have r0 : w2.cell? ⟨w.heap.size, 0, none⟩ = some (.int .i64 n) := by rw [cell_at er]; rfl
  have r1 : w2.cell? ⟨w.heap.size, 1, none⟩ = some (.int .i64 a) := by rw [cell_at er]; rfl
  have r2 : w2.cell? ⟨w.heap.size, 2, none⟩ = some (.int .i64 c) := by rw [cell_at er]; rfl
  have r3 : w2.cell? ⟨w.heap.size, 3, none⟩ = some (.int .i64 k) := by rw [cell_at er]; rfl
  have r4 : w2.cell? ⟨w.heap.size, 4, none⟩ = some (.slice ao l.length cp) := by rw [cell_at er]; rfl
  obtain ⟨hg, hTp⟩ := HA2.out.tail.place HP.out
  obtain ⟨c0, c1, c2, c3, c4, c5⟩ := cells5 hg HP.out
  obtain ⟨aop, cpp, e5⟩ := hTp.form
  rw [e5] at c5
  have HG := hid hg
  have hgl : g < w2.heap.size := (Array.getElem?_eq_some_iff.1 hg).1
  clear er hg hTp
  have FIN : Hid (∀ w4, All (blkC w.heap.size [.int .i64 n, .int .i64 a, .int .i64 c, .int .i64 k, .slice ao l.length cp] 60 :: (rollL g ps ++ cs)) w4 → Txts w4 (.slice ao l.length cp) l → Calls Tryz.prog 84 #[rowV n a c k (.slice ao l.length cp)] w4 fun e w5 => ∃ ao' c', e = .returned (rowV n a c k (.slice ao' l.length c')) ∧ w5.cell? ⟨g, i * 6, none⟩ = some (.bool p.on) ∧ w5.cell? ⟨g, i * 6 + 1, none⟩ = some (.int .i64 p.n) ∧ w5.cell? ⟨g, i * 6 + 2, none⟩ = some (.int .i64 p.a) ∧ w5.cell? ⟨g, i * 6 + 3, none⟩ = some (.int .i64 p.c) ∧ w5.cell? ⟨g, i * 6 + 4, none⟩ = some (.int .i64 p.k) ∧ w5.cell? ⟨g, i * 6 + 5, none⟩ = some (.slice aop p.l.length cpp) ∧ (∀ j, w5.frozen? ⟨g, j, none⟩ = false) ∧
      Hid (All (rollL g (ps.set i ⟨true, n, a, c, k, .slice ao' l.length c', l⟩) ++ cs) ((((((w5.setCell ⟨g, i * 6, none⟩ (.bool true)).setCell ⟨g, i * 6 + 1, none⟩ (.int .i64 n)).setCell ⟨g, i * 6 + 2, none⟩ (.int .i64 a)).setCell ⟨g, i * 6 + 3, none⟩ (.int .i64 c)).setCell ⟨g, i * 6 + 4, none⟩ (.int .i64 k)).setCell ⟨g, i * 6 + 5, none⟩ (.slice ao' l.length c')))) := by
    intro w4 hA4 hT4
    refine (copied_any hA4 n a c k hT4 hl2).mono ?_
    rintro e w5 ⟨ao', c', rfl, A5, B5⟩
    have A6 : All (blkC g (flatP ps) 148 :: (ownC 9 (.slice ao' l.length c') (cellsT l) :: (ps.map Pl.part ++ cs))) w5 := by
      refine All.perm ?_ (A5.sublist (.cons_cons _ (.cons _ (.refl _))))
      simp only [rollL, List.cons_append]
      exact List.Perm.swap _ _ _
    have hg5 := A6.1.2.1
    obtain ⟨c0, c1, c2, c3, c4, c5⟩ := cells5 hg5 HP.out
    rw [e5] at c5
    refine ⟨ao', c', rfl, c0, c1, c2, c3, c4, c5, fun j => free_at hg5 j, ?_⟩
    have A7 := (((((A6.setBlk (i * 6) (.bool true)).setBlk (i * 6 + 1) (.int .i64 n)).setBlk (i * 6 + 2) (.int .i64 a)).setBlk (i * 6 + 3) (.int .i64 c)).setBlk (i * 6 + 4) (.int .i64 k)).setBlk (i * 6 + 5) (.slice ao' l.length c')
    have eq := flatP_set (q := ⟨true, n, a, c, k, .slice ao' l.length c', l⟩) HP.out
    simp only at eq
    rw [eq] at A7
    have A8 := All.setPart (i := i) (L := ps.map Pl.part) (cs := cs) (by simp; exact (List.getElem?_eq_some_iff.1 HP.out).1) A7.tail
    have h9 : All (blkC g (flatP (ps.set i ⟨true, n, a, c, k, .slice ao' l.length c', l⟩)) 148 :: ((ps.map Pl.part).set i (ownC 9 (.slice ao' l.length c') (cellsT l)) ++ cs)) _ := ⟨A7.1, fun d hd => A7.2.1 d (by
      rcases List.mem_append.1 hd with hd | hd
      · rcases List.mem_or_eq_of_mem_set hd with hd | rfl
        · exact List.mem_cons_of_mem _ (List.mem_append_left _ hd)
        · exact List.mem_cons_self
      · exact List.mem_cons_of_mem _ (List.mem_append_right _ hd)), A8⟩
    show All _ _
    simp only [rollL, List.cons_append, List.map_set]
    exact h9
  rw [hof] at c0
  have C1 : Hid (Calls Tryz.prog 83 #[.pointer (some ⟨g, 0, none⟩), .int .i64 (i : Int)] w2.drew fun e w' => e = .returned (.bool false) ∧ w' = w2.drew) := by
    have := has_anyR7 (w := w2.drew) HG.out HP.out hi
    rw [hof] at this
    exact this
  have CQ : Hid (∀ q : Nat, Calls Tryz.prog 83 #[.pointer (some ⟨g, 0, none⟩), .int .i64 (i : Int)] (w2.drewN q) fun e w' => e = .returned (.bool false) ∧ w' = w2.drewN q) := by
    intro q
    have := has_anyR7 (w := w2.drewN q) HG.out HP.out hi
    rw [hof] at this
    exact this
  clear C1
  go_wp2_with fail
  go_quiet (first | (go_at_call 83; exact Calls.quiet_of_same (CQ.out _)))
  have FA := hid (HA2.out.drewN nq)
  have FT := hid (HT2.out.later (bdN w2 nq))
  clear CQ r0 r1 r2 r3 r4 c0 c1 c2 c3 c4 c5 hgl HA2 HT2
  generalize w2.drewN nq = w4 at FA FT ⊢
  have C3 := hid (FIN.out w4.drew FA.out.drew (FT.out.later (bd w4)))
  have er : w4.heap[w.heap.size]? = some (.cells #[.int .i64 n, .int .i64 a, .int .i64 c, .int .i64 k, .slice ao l.length cp] 60 (0, 0)) := FA.out.1.2.1
  have r0 : w4.cell? ⟨w.heap.size, 0, none⟩ = some (.int .i64 n) := by rw [cell_at er]; rfl
  have r1 : w4.cell? ⟨w.heap.size, 1, none⟩ = some (.int .i64 a) := by rw [cell_at er]; rfl
  have r2 : w4.cell? ⟨w.heap.size, 2, none⟩ = some (.int .i64 c) := by rw [cell_at er]; rfl
  have r3 : w4.cell? ⟨w.heap.size, 3, none⟩ = some (.int .i64 k) := by rw [cell_at er]; rfl
  have r4 : w4.cell? ⟨w.heap.size, 4, none⟩ = some (.slice ao l.length cp) := by rw [cell_at er]; rfl
  clear er FIN FA FT
  go_wp2_with fail
  all_goals go_region_law (go_simp; go_at_call 84; refine C3.out.mono ?_; rintro e w5 ⟨ao', c', rfl, c0, c1, c2, c3, c4, c5, cf, H5⟩)
  all_goals clear C3 c0 c1 c2 c3 c4 c5 cf
  all_goals (go_wp2; go_ret; exact ⟨rfl, _, H5.out⟩)

/-- What Set does. -/
theorem set_any {g : Nat} {cl n a c k : Int} {s : Value} {l : List ByteArray} {ps : List Pl} {cs : List Comp} {w : World} (h : All (rollL g ps ++ cs) w) (h8 : ps.length = 8) (hT : Txts w s l) (hl : l.length ≤ 9223372036854775807) : Calls Tryz.prog 125 #[.pointer (some ⟨g, 0, none⟩), .int .i64 cl, rowV n a c k s] w fun e w' => e = .returned (.int .i64 (setE ps cl n a c k l)) ∧ ∃ ps', All (rollL g ps' ++ cs) w' ∧ ((setE ps cl n a c k l ≠ 0 ∧ ps' = ps) ∨ (setE ps cl n a c k l = 0 ∧ ∃ s', ps' = ps.set cl.toNat ⟨true, n, a, c, k, s', l⟩)) := by
  by_cases hc : 0 ≤ cl ∧ cl < 8
  case neg =>
    have e : setE ps cl n a c k l = 70 := by rw [setE, if_pos hc]
    rw [e]
    obtain ⟨ao, cp, rfl⟩ := hT.form
    exact (set_who h hc ⟨_, _, _, rfl⟩).mono fun e w' ⟨h1, h2⟩ => ⟨h1, ps, h2, .inl ⟨by omega, rfl⟩⟩
  by_cases hm : may n a c k l = false
  · have e : setE ps cl n a c k l = 72 := by rw [setE, if_neg (by simpa using hc), if_pos hm]
    rw [e]
    exact (set_form h hc hT hl hm).mono fun e w' ⟨h1, h2⟩ => ⟨h1, ps, h2, .inl ⟨by omega, rfl⟩⟩
  have hm' : may n a c k l = true := by simpa using hm
  have hl2 : l.length ≤ 1000 := by
    simp only [may, decide_eq_true_eq] at hm'
    have := hm'.2.2.2.2
    unfold chkX at this
    repeat' split at this
    all_goals omega
  obtain ⟨i, rfl⟩ : ∃ i : Nat, cl = i := ⟨cl.toNat, by omega⟩
  have hi : i < 8 := by omega
  obtain ⟨p, hp⟩ : ∃ p, ps[i]? = some p := ⟨_, List.getElem?_eq_getElem (by omega)⟩
  have hd : ps.getD (i : Int).toNat .zero = p := by simp [List.getD, hp]
  have e0 : setE ps i n a c k l = if p.on = true ∧ ¬ (p.n < n ∧ p.a < a) then 71 else 0 := by rw [setE, if_neg (by simpa using hc), if_neg hm, hd]
  by_cases ho : p.on = true ∧ ¬ (p.n < n ∧ p.a < a)
  · rw [e0, if_pos ho]
    exact (set_old h hi hp hT hl hm' ho.1 ho.2).mono fun e w' ⟨h1, h2⟩ => ⟨h1, ps, h2, .inl ⟨by omega, rfl⟩⟩
  rw [e0, if_neg ho]
  cases hon : p.on with
  | false => exact (set_off h hi hp hT hl hl2 hm' hon).mono fun e w' ⟨h1, s', h2⟩ => ⟨h1, _, h2, .inr ⟨rfl, s', by simp⟩⟩
  | true => exact (set_on h hi hp hT hl hl2 hm' hon (Classical.not_not.1 fun hn => ho ⟨hon, hn⟩)).mono fun e w' ⟨h1, s', h2⟩ => ⟨h1, _, h2, .inr ⟨rfl, s', by simp⟩⟩

end Go.Proofs.YtafickhhdemjnaaGreatDoor

namespace Go.Proofs.YtafickhhdemjnaaGreatDoor
open Go.RowKit
set_option linter.unusedVariables false

/-- A row's bytes. -/
def rowB (n a c k : Int) (l : List ByteArray) : List UInt8 := enc 9 n.toNat ++ (enc 9 a.toNat ++ (enc 9 c.toNat ++ if c = 0 then enc 9 k.toNat ++ itemsB l else []))

theorem may_parts {n a c k : Int} {l : List ByteArray} (h : may n a c k l = true) : 1 ≤ n ∧ n ≤ 1099511627776 ∧ 1 ≤ a ∧ a ≤ 1099511627776 ∧ 0 ≤ c ∧ c ≤ 4 ∧ 0 ≤ k ∧ k ≤ 1099511627776 ∧ (c ≠ 0 → k = 0 ∧ l = []) ∧ l.length ≤ 8 ∧ (∀ t ∈ l, t.size ≤ 64) ∧ chkX c k l = 0 := by
  simp only [may, decide_eq_true_eq] at h
  obtain ⟨h1, h2, h3, h4, h5⟩ := h
  refine ⟨h1, h2, h3, h4, ?_⟩
  have h5' := h5
  unfold chkX at h5'
  split at h5'
  · omega
  split at h5'
  · omega
  split at h5'
  · omega
  split at h5'
  · omega
  split at h5'
  · omega
  rename_i q1 q2 q3 q4 q5
  refine ⟨by omega, by omega, by omega, by omega, fun hc => ?_, by omega, fun t ht => ?_, h5⟩
  · refine ⟨Classical.byContradiction fun hk => q2 ⟨hc, .inl hk⟩, Classical.byContradiction fun hk => q2 ⟨hc, .inr hk⟩⟩
  · exact Classical.byContradiction fun hk => q5 ⟨t, ht, by omega⟩

theorem may_put {n a c k : Int} {l : List ByteArray} (h : may n a c k l = true) : putX (numS (numS (some []) n) a) c k l = some (rowB n a c k l) := by
  obtain ⟨h1, h2, h3, h4, h5, h6, h7, h8, h9, h10, h11, h12⟩ := may_parts h
  have en : ∀ (st : Option (List UInt8)) (x : Int), 0 ≤ x → numS st x = addS st (enc 9 x.toNat) := fun st x hx => by
    have := numS_nat st x.toNat
    rw [show (x.toNat : Int) = x by omega] at this
    exact this
  rw [putX, if_pos h12]
  rw [en _ n (by omega), en _ a (by omega)]
  by_cases hc : c = 0
  · rw [if_pos hc, en _ c h5, en _ k h7]
    simp [addS, rowB, hc]
  · rw [if_neg hc, en _ c h5]
    simp [addS, rowB, hc]

theorem enc_short (m : Nat) : ∀ (f n : Nat), n < 128 ^ (m + 1) → (enc f n).length ≤ m + 1 := by
  induction m with
  | zero => intro f n h; rw [enc_small f n (by omega)]; simp
  | succ m ih =>
    intro f n h
    by_cases hn : n < 128
    · rw [enc_small f n hn]; simp
    · cases f with
      | zero => simp [enc]
      | succ f =>
        rw [enc_step f n hn]
        have : n / 128 < 128 ^ (m + 1) := by
          rw [Nat.div_lt_iff_lt_mul (by omega)]
          rw [Nat.pow_succ] at h
          exact h
        have := ih f (n / 128) this
        simp; omega

theorem textsB_short {l : List ByteArray} (h : ∀ t ∈ l, t.size ≤ 64) : (textsB l).length ≤ 65 * l.length := by
  induction l with
  | nil => simp [textsB]
  | cons t l ih =>
    have h1 := ih (fun x hx => h x (by simp [hx]))
    have h2 := h t (by simp)
    have h3 := enc_short 0 9 t.size (by omega)
    have h4 := str_len t
    simp only [textsB, List.flatMap_cons, List.length_append, List.length_cons] at h1 ⊢
    omega

theorem rowB_len {n a c k : Int} {l : List ByteArray} (h : may n a c k l = true) : 0 < (rowB n a c k l).length ∧ (rowB n a c k l).length < 600 := by
  obtain ⟨h1, h2, h3, h4, h5, h6, h7, h8, h9, h10, h11, h12⟩ := may_parts h
  have e1 := enc_short 5 9 n.toNat (by omega)
  have e2 := enc_short 5 9 a.toNat (by omega)
  have e3 := enc_short 0 9 c.toNat (by omega)
  have e4 := enc_short 5 9 k.toNat (by omega)
  have e5 := enc_short 0 9 l.length (by omega)
  have e6 := textsB_short h11
  have e7 : 0 < (enc 9 n.toNat).length := by
    by_cases hn : n.toNat < 128
    · rw [enc_small _ _ hn]; simp
    · rw [enc_step _ _ hn]; simp
  by_cases hc : c = 0
  · simp only [rowB, if_pos hc, List.length_append, itemsB]
    omega
  · simp only [rowB, if_neg hc, List.length_append, List.length_nil]
    omega

theorem bulk_short {l : List ByteArray} (h : ∀ t ∈ l, t.size ≤ 64) : bulkT l ≤ 74 * l.length := by
  induction l with
  | nil => simp [bulkT]
  | cons t l ih =>
    have h1 := ih (fun x hx => h x (by simp [hx]))
    have h2 := h t (by simp)
    simp only [bulkT, List.map_cons, List.sum_cons, List.length_cons] at h1 ⊢
    omega

theorem lenS_num0 (st : Option (List UInt8)) (n : Int) (m : Nat) (h : lenS st ≤ m) : lenS (numS st n) ≤ m + 10 := Nat.le_trans (lenS_num st n) (by omega)

set_option maxHeartbeats 1600000 in
set_option maxRecDepth 1000000 in
theorem bytes_on {g i : Nat} {ps : List Pl} {p : Pl} {cs : List Comp} {w : World} (h : All (rollL g ps ++ cs) w) (hp : ps[i]? = some p) (hi : i < 8) (hon : p.on = true) (hm : may p.n p.a p.c p.k p.l = true) : Calls Tryz.prog 126 #[.pointer (some ⟨g, 0, none⟩), .int .i64 (i : Int)] w fun e w' => ∃ so sc, e = .returned (.slice so (rowB p.n p.a p.c p.k p.l).length sc) ∧ All (ownC 5 (.slice so (rowB p.n p.a p.c p.k p.l).length sc) (cellsB (rowB p.n p.a p.c p.k p.l)) :: (rollL g ps ++ cs)) w' := by
  obtain ⟨hg, hT⟩ := h.place hp
  obtain ⟨c0, c1, c2, c3, c4, c5⟩ := cells5 hg hp
  obtain ⟨ao, cp, e5⟩ := hT.form
  have HH := hid hg
  have HA := hid h
  have HP := hid hp
  have HM := hid hm
  have hI : (i : Int) < 8 := by omega
  rw [e5] at c5
  clear h hg hT hm hp
  go_enter Tryz.func126, Tryz.ntmps126
  go_wp2_with fail
  refine (has_anyR7 HH.out HP.out hi).mono ?_
  rw [hon]
  rintro e w1 ⟨rfl, rfl⟩
  go_wp2_with fail
  have HA1 := hid (HA.out.addBlk [.int .i64 p.n, .int .i64 p.a, .int .i64 p.c, .int .i64 p.k, .slice ao p.l.length cp] 60)
  have HT : Hid (∀ w', All (blkC w1.heap.size [.int .i64 p.n, .int .i64 p.a, .int .i64 p.c, .int .i64 p.k, .slice ao p.l.length cp] 60 :: (rollL g ps ++ cs)) w' → Txts w' (.slice ao p.l.length cp) p.l) := fun w' hw' => e5 ▸ (hw'.tail.place HP.out).2
  clear HA HH c0 c1 c2 c3 c4 c5
  refine (newW HA1.out).mono ?_
  rintro e w2 ⟨b, rfl, A⟩
  have A := hid A
  clear HA1
  have er : w2.heap[w1.heap.size]? = some (.cells #[.int .i64 p.n, .int .i64 p.a, .int .i64 p.c, .int .i64 p.k, .slice ao p.l.length cp] 60 (0, 0)) := A.out.tail.1.2.1
  have r0 : w2.cell? ⟨w1.heap.size, 0, none⟩ = some (.int .i64 p.n) := by rw [cell_at er]; rfl
  have r1 : w2.cell? ⟨w1.heap.size, 1, none⟩ = some (.int .i64 p.a) := by rw [cell_at er]; rfl
  have r2 : w2.cell? ⟨w1.heap.size, 2, none⟩ = some (.int .i64 p.c) := by rw [cell_at er]; rfl
  have r3 : w2.cell? ⟨w1.heap.size, 3, none⟩ = some (.int .i64 p.k) := by rw [cell_at er]; rfl
  have r4 : w2.cell? ⟨w1.heap.size, 4, none⟩ = some (.slice ao p.l.length cp) := by rw [cell_at er]; rfl
  clear er
  go_wp2_with fail
  refine (numW A.out p.n (by have := may_parts HM.out; omega) (by simp [lenS])).mono ?_
  rintro e w3 ⟨rfl, v3, A3⟩
  have A := hid A3
  clear A3 r0 r1 r2 r3 r4
  have er : w3.heap[w1.heap.size]? = some (.cells #[.int .i64 p.n, .int .i64 p.a, .int .i64 p.c, .int .i64 p.k, .slice ao p.l.length cp] 60 (0, 0)) := A.out.tail.1.2.1
  have r0 : w3.cell? ⟨w1.heap.size, 0, none⟩ = some (.int .i64 p.n) := by rw [cell_at er]; rfl
  have r1 : w3.cell? ⟨w1.heap.size, 1, none⟩ = some (.int .i64 p.a) := by rw [cell_at er]; rfl
  have r2 : w3.cell? ⟨w1.heap.size, 2, none⟩ = some (.int .i64 p.c) := by rw [cell_at er]; rfl
  have r3 : w3.cell? ⟨w1.heap.size, 3, none⟩ = some (.int .i64 p.k) := by rw [cell_at er]; rfl
  have r4 : w3.cell? ⟨w1.heap.size, 4, none⟩ = some (.slice ao p.l.length cp) := by rw [cell_at er]; rfl
  clear er
  go_wp2_with fail
  refine (numW A.out p.a (by have := may_parts HM.out; omega) (by have := lenS_num (some []) p.n; simp [lenS] at this ⊢; omega)).mono ?_
  rintro e w4 ⟨rfl, v4, A4⟩
  have A := hid A4
  clear A4 r0 r1 r2 r3 r4
  have er : w4.heap[w1.heap.size]? = some (.cells #[.int .i64 p.n, .int .i64 p.a, .int .i64 p.c, .int .i64 p.k, .slice ao p.l.length cp] 60 (0, 0)) := A.out.tail.1.2.1
  have r0 : w4.cell? ⟨w1.heap.size, 0, none⟩ = some (.int .i64 p.n) := by rw [cell_at er]; rfl
  have r1 : w4.cell? ⟨w1.heap.size, 1, none⟩ = some (.int .i64 p.a) := by rw [cell_at er]; rfl
  have r2 : w4.cell? ⟨w1.heap.size, 2, none⟩ = some (.int .i64 p.c) := by rw [cell_at er]; rfl
  have r3 : w4.cell? ⟨w1.heap.size, 3, none⟩ = some (.int .i64 p.k) := by rw [cell_at er]; rfl
  have r4 : w4.cell? ⟨w1.heap.size, 4, none⟩ = some (.slice ao p.l.length cp) := by rw [cell_at er]; rfl
  clear er
  go_wp2_with fail
  refine (putR_any A.out (fun w' hw' => HT.out w' hw') p.c p.k (by have := may_parts HM.out; omega) (by have := may_parts HM.out; omega) ?_ (by have := may_parts HM.out; omega)).mono ?_
  · have h1 := lenS_num (some []) p.n
    have h2 := lenS_num (numS (some []) p.n) p.a
    have h3 := may_parts HM.out
    have h4 := bulk_short h3.2.2.2.2.2.2.2.2.2.2.1
    simp only [lenS, List.length_nil] at h1 h2 ⊢
    omega
  rw [may_put HM.out]
  rintro e w5 ⟨rfl, v5, A5⟩
  have A := hid A5
  clear A5 r0 r1 r2 r3 r4
  go_wp2_with fail
  refine (doneW A.out (by have := rowB_len HM.out; omega)).mono ?_
  rintro e w6 ⟨so, sc, rfl, A6⟩
  have A := hid A6
  clear A6
  generalize hR : rowB p.n p.a p.c p.k p.l = R at A ⊢
  generalize hL : R.length = L at A ⊢
  have HR := hid hR
  have HL := hid hL
  clear hR hL
  go_wp2
  go_ret
  obtain rfl := HL.out
  obtain rfl := HR.out
  refine ⟨so, sc, rfl, A.out.sublist (.cons_cons _ (.cons _ (.cons _ (.refl _))))⟩

theorem bytes_off {g : Nat} {c : Int} {ps : List Pl} {cs : List Comp} {w : World} (h : All (rollL g ps ++ cs) w) (hn : ∀ w', All (rollL g ps ++ cs) w' → Calls Tryz.prog 83 #[.pointer (some ⟨g, 0, none⟩), .int .i64 c] w' fun e w2 => e = .returned (.bool false) ∧ w2 = w') : Calls Tryz.prog 126 #[.pointer (some ⟨g, 0, none⟩), .int .i64 c] w fun e w' => e = .returned (.slice none 0 0) ∧ All (rollL g ps ++ cs) w' := by
  have HA := hid h
  have HN := hid hn
  clear h hn
  go_enter Tryz.func126, Tryz.ntmps126
  go_wp2_with fail
  refine (HN.out _ HA.out).mono ?_
  rintro e w1 ⟨rfl, rfl⟩
  go_wp2
  go_ret
  exact ⟨rfl, HA.out⟩

end Go.Proofs.YtafickhhdemjnaaGreatDoor

import Derived.Test.YtagdpfghooogfaaSetB
namespace Go.Proofs.Ytagdpfghooogfaa
open Go.RowKit
set_option linter.unusedVariables false

/-- A row's bytes. -/
def rowB (n a c k : Int) (l : List ByteArray) : List UInt8 := enc 9 n.toNat ++ (enc 9 a.toNat ++ (enc 9 c.toNat ++ if c = 0 then enc 9 k.toNat ++ itemsB l else []))

theorem may_parts {n a c k : Int} {l : List ByteArray} (h : may n a c k l = true) : 1 ≤ n ∧ n ≤ 1099511627776 ∧ 1 ≤ a ∧ a ≤ 1099511627776 ∧ 0 ≤ c ∧ c ≤ 4 ∧ 0 ≤ k ∧ k ≤ 1099511627776 ∧ (c ≠ 0 → k = 0 ∧ l = []) ∧ l.length ≤ 8 ∧ (∀ t ∈ l, t.size ≤ 64) ∧ chkX c k l = 0 := by
  simp only [may, decide_eq_true_eq] at h
  obtain ⟨h1, h2, h3, h4, h5⟩ := h
  refine ⟨h1, h2, h3, h4, ?_⟩
  have h5' := h5
  unfold chkX at h5'
  split at h5'
  · omega
  split at h5'
  · omega
  split at h5'
  · omega
  split at h5'
  · omega
  split at h5'
  · omega
  rename_i q1 q2 q3 q4 q5
  refine ⟨by omega, by omega, by omega, by omega, fun hc => ?_, by omega, fun t ht => ?_, h5⟩
  · refine ⟨Classical.byContradiction fun hk => q2 ⟨hc, .inl hk⟩, Classical.byContradiction fun hk => q2 ⟨hc, .inr hk⟩⟩
  · exact Classical.byContradiction fun hk => q5 ⟨t, ht, by omega⟩

theorem may_put {n a c k : Int} {l : List ByteArray} (h : may n a c k l = true) : putX (numS (numS (some []) n) a) c k l = some (rowB n a c k l) := by
  obtain ⟨h1, h2, h3, h4, h5, h6, h7, h8, h9, h10, h11, h12⟩ := may_parts h
  have en : ∀ (st : Option (List UInt8)) (x : Int), 0 ≤ x → numS st x = addS st (enc 9 x.toNat) := fun st x hx => by
    have := numS_nat st x.toNat
    rw [show (x.toNat : Int) = x by omega] at this
    exact this
  rw [putX, if_pos h12]
  rw [en _ n (by omega), en _ a (by omega)]
  by_cases hc : c = 0
  · rw [if_pos hc, en _ c h5, en _ k h7]
    simp [addS, rowB, hc]
  · rw [if_neg hc, en _ c h5]
    simp [addS, rowB, hc]

theorem enc_short (m : Nat) : ∀ (f n : Nat), n < 128 ^ (m + 1) → (enc f n).length ≤ m + 1 := by
  induction m with
  | zero => intro f n h; rw [enc_small f n (by omega)]; simp
  | succ m ih =>
    intro f n h
    by_cases hn : n < 128
    · rw [enc_small f n hn]; simp
    · cases f with
      | zero => simp [enc]
      | succ f =>
        rw [enc_step f n hn]
        have : n / 128 < 128 ^ (m + 1) := by
          rw [Nat.div_lt_iff_lt_mul (by omega)]
          rw [Nat.pow_succ] at h
          exact h
        have := ih f (n / 128) this
        simp; omega

theorem textsB_short {l : List ByteArray} (h : ∀ t ∈ l, t.size ≤ 64) : (textsB l).length ≤ 65 * l.length := by
  induction l with
  | nil => simp [textsB]
  | cons t l ih =>
    have h1 := ih (fun x hx => h x (by simp [hx]))
    have h2 := h t (by simp)
    have h3 := enc_short 0 9 t.size (by omega)
    have h4 := str_len t
    simp only [textsB, List.flatMap_cons, List.length_append, List.length_cons] at h1 ⊢
    omega

theorem rowB_len {n a c k : Int} {l : List ByteArray} (h : may n a c k l = true) : 0 < (rowB n a c k l).length ∧ (rowB n a c k l).length < 600 := by
  obtain ⟨h1, h2, h3, h4, h5, h6, h7, h8, h9, h10, h11, h12⟩ := may_parts h
  have e1 := enc_short 5 9 n.toNat (by omega)
  have e2 := enc_short 5 9 a.toNat (by omega)
  have e3 := enc_short 0 9 c.toNat (by omega)
  have e4 := enc_short 5 9 k.toNat (by omega)
  have e5 := enc_short 0 9 l.length (by omega)
  have e6 := textsB_short h11
  have e7 : 0 < (enc 9 n.toNat).length := by
    by_cases hn : n.toNat < 128
    · rw [enc_small _ _ hn]; simp
    · rw [enc_step _ _ hn]; simp
  by_cases hc : c = 0
  · simp only [rowB, if_pos hc, List.length_append, itemsB]
    omega
  · simp only [rowB, if_neg hc, List.length_append, List.length_nil]
    omega

theorem bulk_short {l : List ByteArray} (h : ∀ t ∈ l, t.size ≤ 64) : bulkT l ≤ 74 * l.length := by
  induction l with
  | nil => simp [bulkT]
  | cons t l ih =>
    have h1 := ih (fun x hx => h x (by simp [hx]))
    have h2 := h t (by simp)
    simp only [bulkT, List.map_cons, List.sum_cons, List.length_cons] at h1 ⊢
    omega

theorem lenS_num0 (st : Option (List UInt8)) (n : Int) (m : Nat) (h : lenS st ≤ m) : lenS (numS st n) ≤ m + 10 := Nat.le_trans (lenS_num st n) (by omega)

set_option maxHeartbeats 1600000 in
set_option maxRecDepth 1000000 in
theorem bytes_on {g i : Nat} {ps : List Pl} {p : Pl} {cs : List Comp} {w : World} (h : All (rollL g ps ++ cs) w) (hp : ps[i]? = some p) (hi : i < 8) (hon : p.on = true) (hm : may p.n p.a p.c p.k p.l = true) : Calls Try.prog 23 #[.pointer (some ⟨g, 0, none⟩), .int .i64 (i : Int)] w fun e w' => ∃ so sc, e = .returned (.slice so (rowB p.n p.a p.c p.k p.l).length sc) ∧ All (ownC 5 (.slice so (rowB p.n p.a p.c p.k p.l).length sc) (cellsB (rowB p.n p.a p.c p.k p.l)) :: (rollL g ps ++ cs)) w' := by
  obtain ⟨hg, hT⟩ := h.place hp
  obtain ⟨c0, c1, c2, c3, c4, c5⟩ := cells5 hg hp
  obtain ⟨ao, cp, e5⟩ := hT.form
  have HH := hid hg
  have HA := hid h
  have HP := hid hp
  have HM := hid hm
  have hI : (i : Int) < 8 := by omega
  rw [e5] at c5
  clear h hg hT hm hp
  go_enter Try.func23, Try.ntmps23
  go_wp2_with fail
  refine (has_any HH.out HP.out hi).mono ?_
  rw [hon]
  rintro e w1 ⟨rfl, rfl⟩
  go_wp2_with fail
  have HA1 := hid (HA.out.addBlk [.int .i64 p.n, .int .i64 p.a, .int .i64 p.c, .int .i64 p.k, .slice ao p.l.length cp] 39)
  have HT : Hid (∀ w', All (blkC w1.heap.size [.int .i64 p.n, .int .i64 p.a, .int .i64 p.c, .int .i64 p.k, .slice ao p.l.length cp] 39 :: (rollL g ps ++ cs)) w' → Txts w' (.slice ao p.l.length cp) p.l) := fun w' hw' => e5 ▸ (hw'.tail.place HP.out).2
  clear HA HH c0 c1 c2 c3 c4 c5
  refine (newW HA1.out).mono ?_
  rintro e w2 ⟨b, rfl, A⟩
  have A := hid A
  clear HA1
  have er : w2.heap[w1.heap.size]? = some (.cells #[.int .i64 p.n, .int .i64 p.a, .int .i64 p.c, .int .i64 p.k, .slice ao p.l.length cp] 39 (0, 0)) := A.out.tail.1.2.1
  have r0 : w2.cell? ⟨w1.heap.size, 0, none⟩ = some (.int .i64 p.n) := by rw [cell_at er]; rfl
  have r1 : w2.cell? ⟨w1.heap.size, 1, none⟩ = some (.int .i64 p.a) := by rw [cell_at er]; rfl
  have r2 : w2.cell? ⟨w1.heap.size, 2, none⟩ = some (.int .i64 p.c) := by rw [cell_at er]; rfl
  have r3 : w2.cell? ⟨w1.heap.size, 3, none⟩ = some (.int .i64 p.k) := by rw [cell_at er]; rfl
  have r4 : w2.cell? ⟨w1.heap.size, 4, none⟩ = some (.slice ao p.l.length cp) := by rw [cell_at er]; rfl
  clear er
  go_wp2_with fail
  refine (numW A.out p.n (by have := may_parts HM.out; omega) (by simp [lenS])).mono ?_
  rintro e w3 ⟨rfl, v3, A3⟩
  have A := hid A3
  clear A3 r0 r1 r2 r3 r4
  have er : w3.heap[w1.heap.size]? = some (.cells #[.int .i64 p.n, .int .i64 p.a, .int .i64 p.c, .int .i64 p.k, .slice ao p.l.length cp] 39 (0, 0)) := A.out.tail.1.2.1
  have r0 : w3.cell? ⟨w1.heap.size, 0, none⟩ = some (.int .i64 p.n) := by rw [cell_at er]; rfl
  have r1 : w3.cell? ⟨w1.heap.size, 1, none⟩ = some (.int .i64 p.a) := by rw [cell_at er]; rfl
  have r2 : w3.cell? ⟨w1.heap.size, 2, none⟩ = some (.int .i64 p.c) := by rw [cell_at er]; rfl
  have r3 : w3.cell? ⟨w1.heap.size, 3, none⟩ = some (.int .i64 p.k) := by rw [cell_at er]; rfl
  have r4 : w3.cell? ⟨w1.heap.size, 4, none⟩ = some (.slice ao p.l.length cp) := by rw [cell_at er]; rfl
  clear er
  go_wp2_with fail
  refine (numW A.out p.a (by have := may_parts HM.out; omega) (by have := lenS_num (some []) p.n; simp [lenS] at this ⊢; omega)).mono ?_
  rintro e w4 ⟨rfl, v4, A4⟩
  have A := hid A4
  clear A4 r0 r1 r2 r3 r4
  have er : w4.heap[w1.heap.size]? = some (.cells #[.int .i64 p.n, .int .i64 p.a, .int .i64 p.c, .int .i64 p.k, .slice ao p.l.length cp] 39 (0, 0)) := A.out.tail.1.2.1
  have r0 : w4.cell? ⟨w1.heap.size, 0, none⟩ = some (.int .i64 p.n) := by rw [cell_at er]; rfl
  have r1 : w4.cell? ⟨w1.heap.size, 1, none⟩ = some (.int .i64 p.a) := by rw [cell_at er]; rfl
  have r2 : w4.cell? ⟨w1.heap.size, 2, none⟩ = some (.int .i64 p.c) := by rw [cell_at er]; rfl
  have r3 : w4.cell? ⟨w1.heap.size, 3, none⟩ = some (.int .i64 p.k) := by rw [cell_at er]; rfl
  have r4 : w4.cell? ⟨w1.heap.size, 4, none⟩ = some (.slice ao p.l.length cp) := by rw [cell_at er]; rfl
  clear er
  go_wp2_with fail
  refine (putR_any A.out (fun w' hw' => HT.out w' hw') p.c p.k (by have := may_parts HM.out; omega) (by have := may_parts HM.out; omega) ?_ (by have := may_parts HM.out; omega)).mono ?_
  · have h1 := lenS_num (some []) p.n
    have h2 := lenS_num (numS (some []) p.n) p.a
    have h3 := may_parts HM.out
    have h4 := bulk_short h3.2.2.2.2.2.2.2.2.2.2.1
    simp only [lenS, List.length_nil] at h1 h2 ⊢
    omega
  rw [may_put HM.out]
  rintro e w5 ⟨rfl, v5, A5⟩
  have A := hid A5
  clear A5 r0 r1 r2 r3 r4
  go_wp2_with fail
  refine (doneW A.out (by have := rowB_len HM.out; omega)).mono ?_
  rintro e w6 ⟨so, sc, rfl, A6⟩
  have A := hid A6
  clear A6
  generalize hR : rowB p.n p.a p.c p.k p.l = R at A ⊢
  generalize hL : R.length = L at A ⊢
  have HR := hid hR
  have HL := hid hL
  clear hR hL
  go_wp2
  go_ret
  obtain rfl := HL.out
  obtain rfl := HR.out
  refine ⟨so, sc, rfl, A.out.sublist (.cons_cons _ (.cons _ (.cons _ (.refl _))))⟩

theorem bytes_off {g : Nat} {c : Int} {ps : List Pl} {cs : List Comp} {w : World} (h : All (rollL g ps ++ cs) w) (hn : ∀ w', All (rollL g ps ++ cs) w' → Calls Try.prog 29 #[.pointer (some ⟨g, 0, none⟩), .int .i64 c] w' fun e w2 => e = .returned (.bool false) ∧ w2 = w') : Calls Try.prog 23 #[.pointer (some ⟨g, 0, none⟩), .int .i64 c] w fun e w' => e = .returned (.slice none 0 0) ∧ All (rollL g ps ++ cs) w' := by
  have HA := hid h
  have HN := hid hn
  clear h hn
  go_enter Try.func23, Try.ntmps23
  go_wp2_with fail
  refine (HN.out _ HA.out).mono ?_
  rintro e w1 ⟨rfl, rfl⟩
  go_wp2
  go_ret
  exact ⟨rfl, HA.out⟩

end Go.Proofs.Ytagdpfghooogfaa

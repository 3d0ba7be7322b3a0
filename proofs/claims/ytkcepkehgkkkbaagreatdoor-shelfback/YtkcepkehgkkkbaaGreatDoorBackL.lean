import Derived.Test.YtkcepkehgkkkbaaGreatDoorBackP
import Derived.Test.YtkcepkehgkkkbaaGreatDoorWeird
namespace Go.Proofs.YtkcepkehgkkkbaaGreatDoor
open Go.RowKit
set_option linter.unusedVariables false

set_option maxRecDepth 1000000 in
/-- An op that may not be breaks the writer. -/
theorem put_bad {b : Nat} {v : Value} {st : Option (List UInt8)} {cs : List Comp} {w : World} (h : All (wrC b v st :: cs) w) (ht : ∀ w', All cs w' → Tab w') (k : Int) (nm tx : ByteArray) (n m : Int) (h0 : chkA k nm.size tx.size n m ≠ 0) (hlen : lenS st + 10 ≤ 140737488355328) :
    Calls Tryz.prog 27 #[.pointer (some ⟨b, 0, none⟩), opV k nm tx n m] w fun e w' => e = .returned (.tuple #[]) ∧ ∃ v', All (wrC b v' none :: cs) w' := by
  have A := hid (h.addBlk [.int .i64 k, .string nm, .string tx, .int .i64 n, .int .i64 m] 35)
  have HT := hid ht
  have H0 := hid h0
  clear h ht h0
  go_enter Tryz.func27, Tryz.ntmps27
  go_wp2_with fail
  refine (check_any (HT.out _ A.out.tail.tail) k nm tx n m).mono ?_
  rintro e w1 ⟨rfl, B⟩
  have A := hid (A.out.later B)
  clear B
  have h0 := H0.out
  generalize chkA k nm.size tx.size n m = ck at h0 ⊢
  have e0 : (ck != 0) = true := by simpa using h0
  clear h0 H0
  go_wp2_with fail
  refine (numW A.out.swap (-1) (by omega) hlen).mono ?_
  rintro e w2 ⟨rfl, v2, A2⟩
  have A2 := hid A2
  clear A
  go_wp2
  refine bodyPost_ret (results_none rfl _ _ _) rfl ?_
  exact ⟨rfl, v2, A2.out.swap.tail⟩
set_option maxRecDepth 1000000 in
/-- A result that may not be breaks the writer. -/
theorem putR_bad {b : Nat} {v : Value} {st : Option (List UInt8)} {s : Value} {l : List ByteArray} {cs : List Comp} {w : World} (h : All (wrC b v st :: cs) w) (hT : ∀ w', All cs w' → Txts w' s l) (c n : Int) (h0 : chkX c n l ≠ 0) (hl : l.length ≤ 9223372036854775807) (hlen : lenS st + 10 ≤ 140737488355328) :
    Calls Tryz.prog 28 #[.pointer (some ⟨b, 0, none⟩), resV c n s] w fun e w' => e = .returned (.tuple #[]) ∧ ∃ v', All (wrC b v' none :: cs) w' := by
  obtain ⟨ao, cp, rfl⟩ := (hT w h.tail).form
  have A := hid (h.addBlk [.int .i64 c, .int .i64 n, .slice ao l.length cp] 41)
  have HT := hid hT
  have H0 := hid h0
  clear h hT h0
  go_enter Tryz.func28, Tryz.ntmps28
  go_wp2_with fail
  refine (checkX_any c n (HT.out _ A.out.tail.tail) hl).mono ?_
  rintro e w1 ⟨rfl, B⟩
  have A := hid (A.out.later B)
  clear B
  have h0 := H0.out
  generalize chkX c n l = ck at h0 ⊢
  have e0 : (ck != 0) = true := by simpa using h0
  clear h0 H0
  go_wp2_with fail
  refine (numW A.out.swap (-1) (by omega) hlen).mono ?_
  rintro e w2 ⟨rfl, v2, A2⟩
  have A2 := hid A2
  clear A
  go_wp2
  refine bodyPost_ret (results_none rfl _ _ _) rfl ?_
  exact ⟨rfl, v2, A2.out.swap.tail⟩

theorem chkX_small {c n : Int} {l : List ByteArray} (h : chkX c n l = 0) : (0 ≤ c ∧ c ≤ 4) ∧ (0 ≤ n ∧ n ≤ 1099511627776) ∧ (c ≠ 0 → n = 0 ∧ l = []) ∧ l.length ≤ 8 ∧ (∀ t ∈ l, t.size ≤ 64) := by
  unfold chkX at h
  split at h
  · omega
  · split at h
    · omega
    · rename_i h1
      split at h
      · omega
      · split at h
        · omega
        · split at h
          · omega
          · rename_i h4
            refine ⟨by omega, by omega, fun hc => ⟨?_, ?_⟩, by omega, fun t ht => ?_⟩
            · exact Classical.byContradiction fun hh => h1 ⟨hc, Or.inl hh⟩
            · exact Classical.byContradiction fun hh => h1 ⟨hc, Or.inr hh⟩
            · exact Classical.byContradiction fun hh => h4 ⟨t, ht, by omega⟩
theorem numS_none (n : Int) : numS none n = none := by unfold numS; split <;> simp [addS]
theorem putX_none (c n : Int) (l : List ByteArray) : putX none c n l = none := by
  unfold putX
  split
  · split
    · rw [numS_none, numS_none]; rfl
    · exact numS_none c
  · rfl
theorem bulk_few {l : List ByteArray} (h : l.length ≤ 8) (h64 : ∀ t ∈ l, t.size ≤ 64) : bulkT l ≤ 1000 := by
  have : ∀ l : List ByteArray, (∀ t ∈ l, t.size ≤ 64) → bulkT l ≤ 74 * l.length := by
    intro l
    induction l with
    | nil => intro _; simp [bulkT]
    | cons t l ih =>
      intro hh
      have h1 := ih (fun x hx => hh x (by simp [hx]))
      have h2 := hh t (by simp)
      simp only [bulkT, List.map_cons, List.sum_cons, List.length_cons] at h1 ⊢
      omega
  have := this l h64
  omega

/-- PutResult of any result. -/
theorem putR_all {b : Nat} {v : Value} {st : Option (List UInt8)} {s : Value} {l : List ByteArray} {cs : List Comp} {w : World} (h : All (wrC b v st :: cs) w) (hT : ∀ w', All cs w' → Txts w' s l) (c n : Int) (hl : l.length ≤ 9223372036854775807) (hlen : lenS st + 2000 ≤ 140737488355328) :
    Calls Tryz.prog 28 #[.pointer (some ⟨b, 0, none⟩), resV c n s] w fun e w' => e = .returned (.tuple #[]) ∧ ∃ v', All (wrC b v' (putX st c n l) :: cs) w' := by
  by_cases h0 : chkX c n l = 0
  · obtain ⟨h1, h2, h3, h4, h5⟩ := chkX_small h0
    have := bulk_few h4 h5
    exact putR_any h hT c n (by omega) (by omega) (by omega) (by omega)
  · rw [show putX st c n l = none by unfold putX; rw [if_neg h0]]
    exact putR_bad h hT c n h0 hl (by omega)
/-- PutOp of any op. -/
theorem putO_all {b : Nat} {v : Value} {st : Option (List UInt8)} {cs : List Comp} {w : World} (h : All (wrC b v st :: cs) w) (ht : ∀ w', All cs w' → Tab w') (k : Int) (nm tx : ByteArray) (n m : Int) (hlen : lenS st + 2000 ≤ 140737488355328) :
    Calls Tryz.prog 27 #[.pointer (some ⟨b, 0, none⟩), opV k nm tx n m] w fun e w' => e = .returned (.tuple #[]) ∧ ∃ v', All (wrC b v' (putA k st nm tx n m) :: cs) w' := by
  by_cases h0 : chkA k nm.size tx.size n m = 0
  · obtain ⟨h1, h2, h3, h4, _⟩ := chk_small h0
    exact putO_any h ht k nm tx n m (by omega) (by omega) (by omega)
  · rw [show putA k st nm tx n m = none by unfold putA; rw [if_neg h0]]
    exact put_bad h ht k nm tx n m h0 (by omega)

theorem closeRd {b : Nat} {D : Option Nat} {rv : Value} {pl : Nat} {cs : List Comp} {w : World} (h : All (rdC b D rv ⟨[], pl, 0⟩ :: cs) w) : Calls Tryz.prog 22 #[.pointer (some ⟨b, 0, none⟩)] w fun e w' => e = .returned (.int .i64 0) ∧ ∃ rv', All (rdC b D rv' ⟨[], pl, 0⟩ :: cs) w' := by
  refine (Close_any h.1.2.1).mono ?_
  rw [if_pos rfl]
  rintro e w' ⟨h1, ⟨rv', h2⟩, h3⟩
  exact ⟨h1, rv', h.rstep h2 h3⟩

set_option maxHeartbeats 1600000 in
set_option maxRecDepth 1000000 in
theorem sameOp_true {w : World} (k : Int) (nm tx : ByteArray) (n m : Int) : Calls Tryz.prog 14 #[opV k nm tx n m, opV k nm tx n m] w fun e w' => e = .returned (.bool true) ∧ Below w.heap.size w w' := by
  have e0 : (k == k) = true := by simp
  have e1 : (nm.toList == nm.toList) = true := by simp
  have e2 : (tx.toList == tx.toList) = true := by simp
  have e3 : (n == n) = true := by simp
  have e4 : (m == m) = true := by simp
  have B := hid (b2 (ba w (opB k nm tx n m)) (ba (w.alloc (opB k nm tx n m)) (opB k nm tx n m)))
  have h1 := heap_alloc_new w (opB k nm tx n m)
  have h2 := heap_alloc_new (w.alloc (opB k nm tx n m)) (opB k nm tx n m)
  go_enter Tryz.func14, Tryz.ntmps14
  go_wp2
  go_ret
  exact ⟨rfl, B.out⟩

theorem putX_some {c n : Int} {l : List ByteArray} (h : chkX c n l = 0) (a : List UInt8) : putX (some a) c n l = some (a ++ (enc 9 c.toNat ++ if c = 0 then enc 9 n.toNat ++ itemsB l else [])) := by
  obtain ⟨h1, h2, _⟩ := chkX_small h
  unfold putX
  rw [if_pos h]
  have e1 := numS_nat (some a) c.toNat
  rw [show ((c.toNat : Nat) : Int) = c by omega] at e1
  rw [e1]
  split
  · have e2 := numS_nat (addS (some a) (enc 9 c.toNat)) n.toNat
    rw [show ((n.toNat : Nat) : Int) = n by omega] at e2
    rw [e2]
    simp [addS]
  · simp [addS]
theorem putV_some {k : Int} {nm tx : ByteArray} {n m : Int} (h : chkA k nm.size tx.size n m = 0) : ∃ bs, putV k.toNat (some []) nm tx n m = some bs ∧ putA k (some []) nm tx n m = some bs ∧ bs.length ≤ 200 := by
  obtain ⟨h1, h2, h3, h4, h5⟩ := chk_small h
  have hl := putA_len k (some []) nm tx n m
  have e : putA k (some []) nm tx n m = putV k.toNat (some []) nm tx n m := by unfold putA; rw [if_pos h]
  obtain ⟨N, rfl⟩ : ∃ N : Nat, n = (N : Int) := ⟨n.toNat, by omega⟩
  obtain ⟨M, rfl⟩ : ∃ M : Nat, m = (M : Int) := ⟨m.toNat, by omega⟩
  have hex : ∃ bs, putV k.toNat (some []) nm tx N M = some bs := by
    unfold putV
    repeat' split
    all_goals simp [numS_nat, addS]
  obtain ⟨bs, hb⟩ := hex
  rw [e, hb] at hl
  simp only [lenS] at hl
  have := List.length_nil (α := UInt8)
  exact ⟨bs, hb, by rw [e, hb], by omega⟩
theorem rbytes_len {c n : Int} {l : List ByteArray} (h : chkX c n l = 0) : (enc 9 c.toNat ++ if c = 0 then enc 9 n.toNat ++ itemsB l else []).length ≤ 2000 := by
  obtain ⟨h1, h2, h3, h4, h5⟩ := chkX_small h
  have b1 := bulk_few h4 h5
  have b2 := itemsB_len l
  have b3 := enc_len 9 c.toNat
  have b4 := enc_len 9 n.toNat
  rw [List.length_append]
  split
  · rw [List.length_append]; omega
  · simp; omega

set_option maxHeartbeats 3200000 in
set_option maxRecDepth 1000000 in
theorem back_any {w : World} (hT : Tab w) (k : Int) (nm tx : ByteArray) (n m : Int) (c x : Int) {s : Value} {l : List ByteArray} (hs : Txts w s l) (hl : l.length ≤ 9223372036854775807) :
    Calls Tryz.prog 4 #[opV k nm tx n m, resV c x s] w fun e w' => e = .returned (.bool true) ∧ Below w.heap.size w w' := by
  obtain ⟨ao, cp, rfl⟩ := hs.form
  have HT := hid hT
  have HS := hid hs
  have A := hid (((All.came w).addBlk [.int .i64 k, .string nm, .string tx, .int .i64 n, .int .i64 m] 35).addBlk [.int .i64 c, .int .i64 x, .slice ao l.length cp] 41)
  have hsz : (w.alloc (.cells [Value.int .i64 k, .string nm, .string tx, .int .i64 n, .int .i64 m].toArray 35)).heap.size = w.heap.size + 1 := by simp
  rw [hsz] at A
  clear hs hT hsz
  go_enter Tryz.func4, Tryz.ntmps4
  go_wp2_with fail
  refine (shown_any (HT.out.below (A.out.into (by simp)))).mono ?_
  rintro e w1 ⟨rfl, B1⟩
  have A := hid (A.out.later B1)
  clear B1
  go_wp2_with fail
  refine (newW A.out).mono ?_
  rintro e w2 ⟨b, rfl, A2⟩
  have A := hid A2
  clear A2
  have hb := A.out.blk (g := w.heap.size) (vs := [.int .i64 k, .string nm, .string tx, .int .i64 n, .int .i64 m]) (t := 35) mem3
  have o0 : w2.cell? ⟨w.heap.size, 0, none⟩ = some (.int .i64 k) := by rw [cell_at hb]; rfl
  have o1 : w2.cell? ⟨w.heap.size, 1, none⟩ = some (.string nm) := by rw [cell_at hb]; rfl
  have o2 : w2.cell? ⟨w.heap.size, 2, none⟩ = some (.string tx) := by rw [cell_at hb]; rfl
  have o3 : w2.cell? ⟨w.heap.size, 3, none⟩ = some (.int .i64 n) := by rw [cell_at hb]; rfl
  have o4 : w2.cell? ⟨w.heap.size, 4, none⟩ = some (.int .i64 m) := by rw [cell_at hb]; rfl
  clear hb
  go_wp2_with fail
  refine (putO_all A.out (fun w' h' => HT.out.below (h'.into (by simp))) k nm tx n m (by simp [lenS])).mono ?_
  rintro e w3 ⟨rfl, v3, A3⟩
  have A := hid A3
  clear A3 o0 o1 o2 o3 o4
  have L1 := hid (show lenS (putA k (some []) nm tx n m) ≤ 200 by
    by_cases h0 : chkA k nm.size tx.size n m = 0
    · obtain ⟨bs, _, h2, h3⟩ := putV_some h0
      rw [h2]; exact h3
    · unfold putA; rw [if_neg h0]; simp [lenS])
  have hb := A.out.blk (g := w.heap.size + 1) (vs := [.int .i64 c, .int .i64 x, .slice ao l.length cp]) (t := 41) mem2
  have o0 : w3.cell? ⟨w.heap.size + 1, 0, none⟩ = some (.int .i64 c) := by rw [cell_at hb]; rfl
  have o1 : w3.cell? ⟨w.heap.size + 1, 1, none⟩ = some (.int .i64 x) := by rw [cell_at hb]; rfl
  have o2 : w3.cell? ⟨w.heap.size + 1, 2, none⟩ = some (.slice ao l.length cp) := by rw [cell_at hb]; rfl
  clear hb
  go_wp2_with fail
  refine (putR_all (l := l) A.out (fun w' h' => HS.out.later (h'.into (by simp))) c x hl (by have := L1.out; omega)).mono ?_
  rintro e w4 ⟨rfl, v4, A4⟩
  have A := hid A4
  clear A4 o0 o1 o2 L1
  by_cases hall : chkA k nm.size tx.size n m = 0 ∧ chkX c x l = 0
  case neg =>
    have hst : putX (putA k (some []) nm tx n m) c x l = none := by
      by_cases h0 : chkA k nm.size tx.size n m = 0
      · have h1 : chkX c x l ≠ 0 := fun h1 => hall ⟨h0, h1⟩
        unfold putX; rw [if_neg h1]
      · rw [show putA k (some []) nm tx n m = none by unfold putA; rw [if_neg h0]]
        exact putX_none c x l
    rw [hst] at A
    have HALL := hid hall
    clear hst hall
    go_wp2_with fail
    refine (done_broken A.out.1.2.1).mono ?_
    rintro e w5 ⟨rfl, rfl⟩
    have hb := A.out.blk (g := w.heap.size) (vs := [.int .i64 k, .string nm, .string tx, .int .i64 n, .int .i64 m]) (t := 35) mem3
    have o0 : w5.cell? ⟨w.heap.size, 0, none⟩ = some (.int .i64 k) := by rw [cell_at hb]; rfl
    have o1 : w5.cell? ⟨w.heap.size, 1, none⟩ = some (.string nm) := by rw [cell_at hb]; rfl
    have o2 : w5.cell? ⟨w.heap.size, 2, none⟩ = some (.string tx) := by rw [cell_at hb]; rfl
    have o3 : w5.cell? ⟨w.heap.size, 3, none⟩ = some (.int .i64 n) := by rw [cell_at hb]; rfl
    have o4 : w5.cell? ⟨w.heap.size, 4, none⟩ = some (.int .i64 m) := by rw [cell_at hb]; rfl
    clear hb
    go_wp2_with fail
    refine (check_any (HT.out.below (A.out.into (by simp))) k nm tx n m).mono ?_
    rintro e w6 ⟨rfl, B6⟩
    have A := hid (A.out.later B6)
    clear B6 o0 o1 o2 o3 o4
    have hb := A.out.blk (g := w.heap.size + 1) (vs := [.int .i64 c, .int .i64 x, .slice ao l.length cp]) (t := 41) mem2
    have o0 : w6.cell? ⟨w.heap.size + 1, 0, none⟩ = some (.int .i64 c) := by rw [cell_at hb]; rfl
    have o1 : w6.cell? ⟨w.heap.size + 1, 1, none⟩ = some (.int .i64 x) := by rw [cell_at hb]; rfl
    have o2 : w6.cell? ⟨w.heap.size + 1, 2, none⟩ = some (.slice ao l.length cp) := by rw [cell_at hb]; rfl
    clear hb
    go_wp2_with fail
    refine (checkX_any (l := l) c x (HS.out.later (A.out.into (by simp))) hl).mono ?_
    rintro e w7 ⟨rfl, B7⟩
    have A := hid (A.out.later B7)
    clear B7 o0 o1 o2
    have hall := HALL.out
    generalize chkA k nm.size tx.size n m = c1 at hall ⊢
    generalize chkX c x l = c2 at hall ⊢
    by_cases h1 : c1 = 0
    · have e1 : (c1 != 0) = false := by simpa using h1
      have e2 : (c2 != 0) = true := by simpa using fun h2 => hall ⟨h1, h2⟩
      clear hall h1 HALL
      go_wp2
      go_ret
      exact ⟨rfl, A.out.into (by simp)⟩
    · have e1 : (c1 != 0) = true := by simpa using h1
      clear hall h1 HALL
      go_wp2
      go_ret
      exact ⟨rfl, A.out.into (by simp)⟩
  obtain ⟨h1, h2⟩ := hall
  obtain ⟨bs1, p1, p2, p3⟩ := putV_some h1
  rw [p2, putX_some h2] at A
  have L2 := rbytes_len h2
  obtain ⟨q1, q2, q3, q4, q5⟩ := chkX_small h2
  have RE := hid (res_enc q1.1 q1.2 q2.1 q2.2 q3 q4 q5 (0 + bs1.length))
  generalize hbs2 : (enc 9 c.toNat ++ if c = 0 then enc 9 x.toNat ++ itemsB l else []) = bs2 at A L2 RE
  have hll : (bs1 ++ bs2).length ≤ 3000 := by rw [List.length_append]; omega
  have H1 := hid h1
  have H2 := hid h2
  have P1 := hid p1
  have Q4 := hid q4
  clear h1 h2 p1 p2 p3 q1 q2 q3 q4 q5 hbs2 L2
  generalize hB : bs1 ++ bs2 = bb at A hll
  have HB := hid hB
  clear hB
  go_wp2_with fail
  refine (doneW A.out (by omega)).mono ?_
  rintro e w5 ⟨so, sc, rfl, A5⟩
  have A := hid A5
  clear A5
  have h5 : w5.ownsRow 0 5 1 (.slice so bb.length sc) (cellsB bb).length (cellsB bb) := A.out.1.2.1
  rw [cellsB_length] at h5
  have RA := hid (Reads.of_owns h5)
  clear h5
  have hb := A.out.blk (g := w.heap.size) (vs := [.int .i64 k, .string nm, .string tx, .int .i64 n, .int .i64 m]) (t := 35) mem4
  have o0 : w5.cell? ⟨w.heap.size, 0, none⟩ = some (.int .i64 k) := by rw [cell_at hb]; rfl
  have o1 : w5.cell? ⟨w.heap.size, 1, none⟩ = some (.string nm) := by rw [cell_at hb]; rfl
  have o2 : w5.cell? ⟨w.heap.size, 2, none⟩ = some (.string tx) := by rw [cell_at hb]; rfl
  have o3 : w5.cell? ⟨w.heap.size, 3, none⟩ = some (.int .i64 n) := by rw [cell_at hb]; rfl
  have o4 : w5.cell? ⟨w.heap.size, 4, none⟩ = some (.int .i64 m) := by rw [cell_at hb]; rfl
  clear hb
  go_wp2_with fail
  refine (check_any (HT.out.below (A.out.into (by simp))) k nm tx n m).mono ?_
  rw [H1.out]
  rintro e w6 ⟨rfl, B6⟩
  have A := hid (A.out.later B6)
  have RA := hid (RA.out.below B6)
  clear B6 o0 o1 o2 o3 o4
  have hb := A.out.blk (g := w.heap.size + 1) (vs := [.int .i64 c, .int .i64 x, .slice ao l.length cp]) (t := 41) mem3
  have o0 : w6.cell? ⟨w.heap.size + 1, 0, none⟩ = some (.int .i64 c) := by rw [cell_at hb]; rfl
  have o1 : w6.cell? ⟨w.heap.size + 1, 1, none⟩ = some (.int .i64 x) := by rw [cell_at hb]; rfl
  have o2 : w6.cell? ⟨w.heap.size + 1, 2, none⟩ = some (.slice ao l.length cp) := by rw [cell_at hb]; rfl
  clear hb
  go_wp2_with fail
  refine (checkX_any (l := l) c x (HS.out.later (A.out.into (by simp))) hl).mono ?_
  rw [H2.out]
  rintro e w7 ⟨rfl, B7⟩
  have A := hid (A.out.later B7)
  have RA := hid (RA.out.below B7)
  clear B7 o0 o1 o2 H2
  go_wp2_with fail
  refine (newR A.out (Or.inl RA.out) (by omega)).mono ?_
  rintro e w8 ⟨b2, D, rv, rfl, A8, _⟩
  rw [← HB.out] at A8
  have A := hid A8
  have hp8 : 0 + (bs1 ++ bs2).length ≤ 140737488355328 := by rw [HB.out]; omega
  have HP8 := hid hp8
  clear A8 RA hp8
  go_wp2_with fail
  refine (backOp H1.out P1.out A.out (fun w' h' => HT.out.below (h'.into (by simp))) HP8.out).mono ?_
  rintro e w9 ⟨rfl, rv9, A9⟩
  have A := hid ((A9.addBlk [.int .i64 k, .string nm, .string tx, .int .i64 n, .int .i64 m] 35).swap)
  clear A9 H1 P1
  obtain ⟨pl', hre⟩ := RE.out
  have HRV := hid (show (⟨bs2, 0 + bs1.length, 0⟩ : Rst).resV = ⟨c, x, l⟩ by rw [Rst.resV, hre]; rfl)
  have HRS := hid (show (⟨bs2, 0 + bs1.length, 0⟩ : Rst).res = ⟨[], pl', 0⟩ by rw [Rst.res, hre])
  have HSZ := hid (show (⟨bs2, 0 + bs1.length, 0⟩ : Rst).size ≤ 140737488355328 by have := HP8.out; rw [List.length_append] at this; simp only [Rst.size]; omega)
  clear RE hre HP8
  generalize hR : (⟨bs2, 0 + bs1.length, 0⟩ : Rst) = R at A HRV HRS HSZ
  clear hR
  go_wp2_with fail
  refine (getResult_any A.out HSZ.out).mono ?_
  rw [HRV.out, HRS.out]
  simp only
  rintro e w10 ⟨so2, sc2, rv10, rfl, A10⟩
  have A := hid ((A10.addBlk [.int .i64 c, .int .i64 x, .slice so2 l.length sc2] 41).perm (rot3 _ _ _ _))
  clear A10 HRV HRS HSZ
  go_wp2_with fail
  refine (closeRd A.out).mono ?_
  rintro e w11 ⟨rfl, rv11, A11⟩
  have A := hid A11
  clear A11
  have hb := A.out.blk (g := w.heap.size) (vs := [.int .i64 k, .string nm, .string tx, .int .i64 n, .int .i64 m]) (t := 35) (by simp)
  have o0 : w11.cell? ⟨w.heap.size, 0, none⟩ = some (.int .i64 k) := by rw [cell_at hb]; rfl
  have o1 : w11.cell? ⟨w.heap.size, 1, none⟩ = some (.string nm) := by rw [cell_at hb]; rfl
  have o2 : w11.cell? ⟨w.heap.size, 2, none⟩ = some (.string tx) := by rw [cell_at hb]; rfl
  have o3 : w11.cell? ⟨w.heap.size, 3, none⟩ = some (.int .i64 n) := by rw [cell_at hb]; rfl
  have o4 : w11.cell? ⟨w.heap.size, 4, none⟩ = some (.int .i64 m) := by rw [cell_at hb]; rfl
  clear hb
  have hb := A.out.blk (g := w9.heap.size) (vs := [.int .i64 k, .string nm, .string tx, .int .i64 n, .int .i64 m]) (t := 35) (by simp)
  have p0 : w11.cell? ⟨w9.heap.size, 0, none⟩ = some (.int .i64 k) := by rw [cell_at hb]; rfl
  have p1 : w11.cell? ⟨w9.heap.size, 1, none⟩ = some (.string nm) := by rw [cell_at hb]; rfl
  have p2 : w11.cell? ⟨w9.heap.size, 2, none⟩ = some (.string tx) := by rw [cell_at hb]; rfl
  have p3 : w11.cell? ⟨w9.heap.size, 3, none⟩ = some (.int .i64 n) := by rw [cell_at hb]; rfl
  have p4 : w11.cell? ⟨w9.heap.size, 4, none⟩ = some (.int .i64 m) := by rw [cell_at hb]; rfl
  clear hb
  go_wp2_with fail
  refine (sameOp_true k nm tx n m).mono ?_
  rintro e w12 ⟨rfl, B12⟩
  have A := hid (A.out.later B12)
  clear B12 o0 o1 o2 o3 o4 p0 p1 p2 p3 p4
  have hb := A.out.blk (g := w.heap.size + 1) (vs := [.int .i64 c, .int .i64 x, .slice ao l.length cp]) (t := 41) (by simp)
  have o0 : w12.cell? ⟨w.heap.size + 1, 0, none⟩ = some (.int .i64 c) := by rw [cell_at hb]; rfl
  have o1 : w12.cell? ⟨w.heap.size + 1, 1, none⟩ = some (.int .i64 x) := by rw [cell_at hb]; rfl
  have o2 : w12.cell? ⟨w.heap.size + 1, 2, none⟩ = some (.slice ao l.length cp) := by rw [cell_at hb]; rfl
  clear hb
  have hb := A.out.blk (g := w10.heap.size) (vs := [.int .i64 c, .int .i64 x, .slice so2 l.length sc2]) (t := 41) (by simp)
  have p0 : w12.cell? ⟨w10.heap.size, 0, none⟩ = some (.int .i64 c) := by rw [cell_at hb]; rfl
  have p1 : w12.cell? ⟨w10.heap.size, 1, none⟩ = some (.int .i64 x) := by rw [cell_at hb]; rfl
  have p2 : w12.cell? ⟨w10.heap.size, 2, none⟩ = some (.slice so2 l.length sc2) := by rw [cell_at hb]; rfl
  clear hb
  go_wp2_with fail
  refine (sameResult_true c x (l := l) (HS.out.later (A.out.into (by simp))) (txts_of (e := 9) (l := l) A.out (by simp)) (by have := Q4.out; omega)).mono ?_
  rintro e w13 ⟨rfl, B13⟩
  have A := hid (A.out.later B13)
  clear B13 o0 o1 o2 p0 p1 p2
  go_wp2
  go_ret
  exact ⟨rfl, A.out.into (by simp)⟩
end Go.Proofs.YtkcepkehgkkkbaaGreatDoor

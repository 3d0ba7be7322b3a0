import Derived.Test.YtkcepkehgkkkbaaDoorFormsP
import Derived.Test.YtkcepkehgkkkbaaDoorWeird
namespace Go.Proofs.YtkcepkehgkkkbaaDoor
open Go.RowKit
set_option linter.unusedVariables false

/-- The beginning of a list that came in. -/
theorem cut_w {w : World} {ao : Option Addr} {c m : Nat} {l : List UInt8} (h : ReadsW w (.slice ao l.length c) l) (hm : m ≤ l.length) :
    ∃ ao', (∀ w' : World, (Instr.slice 46 (.slice ao l.length c) none (some (.int .i64 (m : Int))) none).run Tryd.prog w' = .ok (.slice ao' m c) w') ∧ ReadsW w (.slice ao' m c) (l.take m) := by
  rcases h with ⟨ao', c', e, hc, hcase⟩ | ⟨rfl, a, c', e⟩
  · simp only [Value.slice.injEq] at e
    obtain ⟨rfl, _, rfl⟩ := e
    have hl : (l.take m).length = m := by simp; omega
    have hs : ∀ w' : World, (sizeOf (Tryd.prog.elem 46)).run Tryd.prog w' = .ok 1 w' := fun w' => by kernel_rfl
    rcases hcase with ⟨rfl, rfl, rfl⟩ | ⟨g, o, rfl, hg, hcell⟩
    · have : m = 0 := by simpa using hm
      subst this
      refine ⟨none, fun w' => ?_, Or.inl (by simpa using Reads.nil w)⟩
      rw [run_slice_h w' 46 none _ 0 (by kernel_rfl) .i64 ((0 : Nat) : Int) (by omega) (by omega), hs w']
      simp [sliced, Result.andThen]
    · refine ⟨some ⟨g, o, none⟩, fun w' => ?_, Or.inl ⟨_, c, by rw [hl], by omega, Or.inr ⟨g, o, rfl, hg, fun j u hu => ?_⟩⟩⟩
      · rw [run_slice_h w' 46 (some ⟨g, o, none⟩) _ c (by kernel_rfl) .i64 (m : Int) (by omega) (by omega), hs w']
        simp [sliced, Result.andThen, Addr.add_lit]
      · refine hcell j u ?_
        rw [cellsB, List.map_take, List.getElem?_take] at hu
        split at hu
        · exact hu
        · cases hu
  · simp only [Value.slice.injEq] at e
    obtain ⟨rfl, _, rfl⟩ := e
    have : m = 0 := by simpa using hm
    subst this
    have hs : ∀ w' : World, (sizeOf (Tryd.prog.elem 46)).run Tryd.prog w' = .ok 1 w' := fun w' => by kernel_rfl
    refine ⟨if c = 0 then some a else some (a.add 0), fun w' => ?_, Or.inr ⟨rfl, (if c = 0 then a else a.add 0), c, by split <;> rfl⟩⟩
    rw [run_slice_h w' 46 (some a) _ c (by kernel_rfl) .i64 ((0 : Nat) : Int) (by omega) (by omega), hs w']
    simp [sliced, Result.andThen]

theorem putA_got {r R : Rst} {k : Int} {nm tx : ByteArray} {n m : Int} (G : Got r R k nm tx n m) : ∃ bs, putA k (some []) nm tx n m = some bs ∧ r.rs = bs ++ R.rs ∧ R.place = r.place + bs.length := by
  obtain ⟨bs, h1, h2, h3⟩ := G.bs
  exact ⟨bs, by rw [putA, if_pos G.chk, h1], h2, h3⟩

theorem bulk_few {l : List ByteArray} (h : l.length ≤ 8) (h64 : ∀ t ∈ l, t.size ≤ 64) : bulkT l ≤ 1000 := by
  have : ∀ l : List ByteArray, (∀ t ∈ l, t.size ≤ 64) → bulkT l ≤ 74 * l.length := by
    intro l
    induction l with
    | nil => intro _; simp [bulkT]
    | cons t l ih =>
      intro hh
      have h1 := ih (fun x hx => hh x (by simp [hx]))
      have h2 := hh t (by simp)
      simp only [bulkT, List.map_cons, List.sum_cons, List.length_cons] at h1 ⊢
      omega
  have := this l h64
  omega
/-- The last rows: what was written is what was read. -/
theorem take_got {l bs rest : List UInt8} (h : l = bs ++ rest) : l.take bs.length = bs ∧ bs.length ≤ l.length := by
  subst h
  simp

set_option maxHeartbeats 3200000 in
set_option maxRecDepth 1000000 in
theorem forms_op {w : World} (hT : Tab w) {s : Value} {l : List UInt8} (h : ReadsW w s l) (hlen : l.length ≤ 140737488351232) :
    Calls Tryd.prog 5 #[s, .bool true] w fun e w' => e = .returned (.bool true) ∧ Below w.heap.size w w' := by
  obtain ⟨ao, c, rfl⟩ := h.form
  have HT := hid hT
  have HR := hid h
  clear h hT
  go_enter Tryd.func5, Tryd.ntmps5
  go_wp2_with fail
  refine (shown_any HT.out).mono ?_
  rintro e w1 ⟨rfl, B1⟩
  have A := hid ((All.came w).later B1)
  clear B1
  go_wp2_with fail
  refine (newR A.out (HR.out.below (A.out.into (by simp))) (by omega)).mono ?_
  rintro e w2 ⟨b, D, rv, rfl, A2, _⟩
  have A := hid A2
  clear A2
  go_wp2_with fail
  refine (newW A.out).mono ?_
  rintro e w3 ⟨b', rfl, A3⟩
  have A := hid A3.swap
  clear A3
  go_wp2_with fail
  refine (getOp_any A.out (fun w' h' => HT.out.below (h'.into (by simp))) (by simp [Rst.size]; omega)).mono ?_
  rintro e w4 ⟨k, nm, tx, n, m, R, rv', rfl, A4, hcase⟩
  have HC := hid hcase
  have hnm : nm.size ≤ 16 ∧ tx.size ≤ 64 ∧ n < 9223372036854775808 ∧ m < 9223372036854775808 := by
    rcases hcase with ⟨_, _, rfl, rfl, rfl, rfl⟩ | ⟨_, G⟩
    · exact ⟨by decide, by decide, by omega, by omega⟩
    · have h1 := G.nb
      have h2 := G.mb
      exact ⟨G.nm16, G.tx64, by omega, by omega⟩
  have HN := hid hnm
  clear hnm hcase
  have A := hid ((A4.swap).addBlk [.int .i64 k, .string nm, .string tx, .int .i64 n, .int .i64 m] 23).swap
  clear A4
  go_wp2_with fail
  refine (putO_any A.out (fun w' h' => HT.out.below (h'.into (by simp))) k nm tx n m HN.out.2.2.1 HN.out.2.2.2 (by have := HN.out.1; have := HN.out.2.1; simp [lenS]; omega)).mono ?_
  rintro e w5 ⟨rfl, v5, A5⟩
  have A := hid A5
  clear A5
  have hb := A.out.blk (g := w4.heap.size) (vs := [.int .i64 k, .string nm, .string tx, .int .i64 n, .int .i64 m]) (t := 23) mem2
  have o0 : w5.cell? ⟨w4.heap.size, 0, none⟩ = some (.int .i64 k) := by rw [cell_at hb]; rfl
  have o1 : w5.cell? ⟨w4.heap.size, 1, none⟩ = some (.string nm) := by rw [cell_at hb]; rfl
  have o2 : w5.cell? ⟨w4.heap.size, 2, none⟩ = some (.string tx) := by rw [cell_at hb]; rfl
  have o3 : w5.cell? ⟨w4.heap.size, 3, none⟩ = some (.int .i64 n) := by rw [cell_at hb]; rfl
  have o4 : w5.cell? ⟨w4.heap.size, 4, none⟩ = some (.int .i64 m) := by rw [cell_at hb]; rfl
  clear hb
  go_wp2_with fail
  refine (check_any (HT.out.below (A.out.into (by simp))) k nm tx n m).mono ?_
  rintro e w6 ⟨rfl, B6⟩
  have A := hid ((A.out.later B6).rev3)
  clear B6 o0 o1 o2 o3 o4
  rcases HC.out with ⟨hne, rfl, rfl, rfl, rfl, rfl⟩ | ⟨h0, G⟩
  · rw [chkA_out (by omega)]
    have en : (R.err != 0) = true := by simpa using hne
    clear hne HC
    go_wp2_with fail
    refine (errRd A.out).mono ?_
    rintro e w7 ⟨rfl, A7⟩
    have A := hid A7
    clear A7
    go_wp2
    go_ret
    exact ⟨rfl, A.out.into (by simp)⟩
  · obtain ⟨bs, hput, hrs, hpl⟩ := putA_got G
    rw [G.chk]
    rw [hput] at A
    have hrs' : l = bs ++ R.rs := hrs
    obtain ⟨ht, hbl⟩ := take_got hrs'
    have HT2 := hid ht
    have HP := hid (show (R.place : Int) = (bs.length : Int) by rw [hpl]; simp)
    have H0 := hid h0
    clear G HC h0 hput hrs hpl hrs' ht
    go_wp2_with fail
    refine (errRd A.out).mono ?_
    rw [H0.out, HP.out]
    rintro e w7 ⟨rfl, A7⟩
    have A := hid A7.rev3
    clear A7
    go_wp2_with fail
    refine (doneW A.out (by omega)).mono ?_
    rintro e w8 ⟨so, sc, rfl, A8⟩
    have A := hid A8
    clear A8
    have h5 : w8.ownsRow 0 5 1 (.slice so bs.length sc) (cellsB bs).length (cellsB bs) := A.out.1.2.1
    rw [cellsB_length] at h5
    have RA := hid (Reads.of_owns h5)
    clear h5
    obtain ⟨ao', hcut, RB⟩ := cut_w (HR.out.below (A.out.into (by simp))) hbl
    have RB := hid RB
    generalize hL : bs.length = L at *
    have b1 : (0 : Int) ≤ (L : Int) := by omega
    have b2 : decide ((L : Int) ≤ (l.length : Int)) = true := by simpa using hbl
    go_wp2_with fail
    rw [HT2.out] at RB
    refine (same_w (Or.inl RA.out) RB.out (by omega)).mono ?_
    rintro e w9 ⟨rfl, B9⟩
    have A := hid (A.out.later B9)
    clear B9 RA RB hcut
    go_wp2
    go_ret
    exact ⟨rfl, A.out.into (by simp)⟩

set_option maxHeartbeats 3200000 in
set_option maxRecDepth 1000000 in
theorem forms_res {w : World} (hT : Tab w) {s : Value} {l : List UInt8} (h : ReadsW w s l) (hlen : l.length ≤ 140737488351232) :
    Calls Tryd.prog 5 #[s, .bool false] w fun e w' => e = .returned (.bool true) ∧ Below w.heap.size w w' := by
  obtain ⟨ao, c, rfl⟩ := h.form
  have HT := hid hT
  have HR := hid h
  clear h hT
  go_enter Tryd.func5, Tryd.ntmps5
  go_wp2_with fail
  refine (shown_any HT.out).mono ?_
  rintro e w1 ⟨rfl, B1⟩
  have A := hid ((All.came w).later B1)
  clear B1
  go_wp2_with fail
  refine (newR A.out (HR.out.below (A.out.into (by simp))) (by omega)).mono ?_
  rintro e w2 ⟨b, D, rv, rfl, A2, _⟩
  have A := hid A2
  clear A2
  go_wp2_with fail
  refine (newW A.out).mono ?_
  rintro e w3 ⟨b', rfl, A3⟩
  have A := hid A3.swap
  clear A3
  obtain ⟨r, hr⟩ : ∃ r : Rst, Hid (r = ⟨l, 0, 0⟩) := ⟨_, hid rfl⟩
  rw [← hr.out] at A
  have hsz : r.size ≤ 140737488355328 := by rw [hr.out]; simp [Rst.size]; omega
  go_wp2_with fail
  refine (getResult_any A.out hsz).mono ?_
  rintro e w4 ⟨so, sc, rv', rfl, A4⟩
  have hx : chkX r.resV.c r.resV.k r.resV.l = 0 ∧ r.resV.l.length ≤ 8 ∧ bulkT r.resV.l ≤ 1000 ∧ r.resV.c < 9223372036854775808 ∧ r.resV.k < 9223372036854775808 := by
    by_cases he : r.res.err = 0
    · obtain ⟨h1, h2, h3, h4, h5, _⟩ := res_got r he
      exact ⟨h1, h2, bulk_few h2 h3, by omega, by omega⟩
    · rw [res_none r he]
      exact ⟨by decide, by decide, by decide, by decide, by decide⟩
  have HC := hid (show (r.res.err ≠ 0) ∨ (r.res.err = 0 ∧ ∃ bs, putX (some []) r.resV.c r.resV.k r.resV.l = some bs ∧ l = bs ++ r.res.rs ∧ (r.res.place : Int) = (bs.length : Int)) by
    by_cases he : r.res.err = 0
    · obtain ⟨h1, h2, h3, h4, h5, bs, h6, h7, h8⟩ := res_got r he
      rw [hr.out] at h7 h8
      refine Or.inr ⟨he, bs, h6, ?_, ?_⟩
      · rw [hr.out]; exact h7
      · rw [hr.out, h8]; simp
    · exact Or.inl he)
  have HX := hid hx
  clear hx hsz hr
  generalize r.resV = X at *
  generalize r.res = R at *
  obtain ⟨cc, kk, L⟩ := X
  simp only at A4 HX HC ⊢
  have A := hid ((A4.addBlk [.int .i64 cc, .int .i64 kk, .slice so L.length sc] 26).perm (ds := wrC b' (.slice none 0 0) (some []) :: blkC w4.heap.size [.int .i64 cc, .int .i64 kk, .slice so L.length sc] 26 :: rdC b D rv' R :: ownC 9 (.slice so L.length sc) (txtV L) :: [inC w]) (by
    have := List.perm_append_comm (l₁ := [blkC w4.heap.size [.int .i64 cc, .int .i64 kk, .slice so L.length sc] 26, ownC 9 (.slice so L.length sc) (txtV L), rdC b D rv' R]) (l₂ := [wrC b' (.slice none 0 0) (some [])])
    refine (this.append_right [inC w]).trans ?_
    exact (List.Perm.cons _ (List.Perm.cons _ (List.Perm.swap _ _ _)))))
  clear A4
  go_wp2_with fail
  refine (putR_any (l := L) A.out (fun w' h' => txts_of (e := 9) h' (by simp)) cc kk HX.out.2.2.2.1 HX.out.2.2.2.2 (by have := HX.out.2.2.1; simp [lenS]; omega) (by have := HX.out.2.1; omega)).mono ?_
  rintro e w5 ⟨rfl, v5, A5⟩
  have A := hid A5
  clear A5
  have hb := A.out.blk (g := w4.heap.size) (vs := [.int .i64 cc, .int .i64 kk, .slice so L.length sc]) (t := 26) mem2
  have o0 : w5.cell? ⟨w4.heap.size, 0, none⟩ = some (.int .i64 cc) := by rw [cell_at hb]; rfl
  have o1 : w5.cell? ⟨w4.heap.size, 1, none⟩ = some (.int .i64 kk) := by rw [cell_at hb]; rfl
  have o2 : w5.cell? ⟨w4.heap.size, 2, none⟩ = some (.slice so L.length sc) := by rw [cell_at hb]; rfl
  clear hb
  go_wp2_with fail
  refine (checkX_any (l := L) cc kk (txts_of (e := 9) A.out (by simp)) (by have := HX.out.2.1; omega)).mono ?_
  rw [HX.out.1]
  rintro e w6 ⟨rfl, B6⟩
  have A := hid ((A.out.later B6).rev3)
  clear B6 o0 o1 o2
  rcases HC.out with hne | ⟨h0, bs, hput, hrs, hpl⟩
  · have en : (R.err != 0) = true := by simpa using hne
    clear hne HC
    go_wp2_with fail
    refine (errRd A.out).mono ?_
    rintro e w7 ⟨rfl, A7⟩
    have A := hid A7
    clear A7
    go_wp2
    go_ret
    exact ⟨rfl, A.out.into (by simp)⟩
  · rw [hput] at A
    obtain ⟨ht, hbl⟩ := take_got hrs
    have HT2 := hid ht
    have HP := hid hpl
    have H0 := hid h0
    clear HC h0 hput hrs hpl ht
    go_wp2_with fail
    refine (errRd A.out).mono ?_
    rw [H0.out, HP.out]
    rintro e w7 ⟨rfl, A7⟩
    have A := hid A7.rev3
    clear A7
    go_wp2_with fail
    refine (doneW A.out (by omega)).mono ?_
    rintro e w8 ⟨so8, sc8, rfl, A8⟩
    have A := hid A8
    clear A8
    have h5 : w8.ownsRow 0 5 1 (.slice so8 bs.length sc8) (cellsB bs).length (cellsB bs) := A.out.1.2.1
    rw [cellsB_length] at h5
    have RA := hid (Reads.of_owns h5)
    clear h5
    obtain ⟨ao', hcut, RB⟩ := cut_w (HR.out.below (A.out.into (by simp))) hbl
    have RB := hid RB
    generalize hL : bs.length = M at *
    have b1 : (0 : Int) ≤ (M : Int) := by omega
    have b2 : decide ((M : Int) ≤ (l.length : Int)) = true := by simpa using hbl
    go_wp2_with fail
    rw [HT2.out] at RB
    refine (same_w (Or.inl RA.out) RB.out (by omega)).mono ?_
    rintro e w9 ⟨rfl, B9⟩
    have A := hid (A.out.later B9)
    clear B9 RA RB hcut
    go_wp2
    go_ret
    exact ⟨rfl, A.out.into (by simp)⟩

theorem forms_any {w : World} (hT : Tab w) {s : Value} {l : List UInt8} (h : ReadsW w s l) (hlen : l.length ≤ 140737488351232) (op : Bool) :
    Calls Tryd.prog 5 #[s, .bool op] w fun e w' => e = .returned (.bool true) ∧ Below w.heap.size w w' := by
  cases op
  · exact forms_res hT h hlen
  · exact forms_op hT h hlen
end Go.Proofs.YtkcepkehgkkkbaaDoor

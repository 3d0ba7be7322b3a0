import Derived.Test.YtdhkdniddjnigaaGreatDoorGb
namespace Go.Proofs.YtdhkdniddjnigaaGreatDoor
open Go.RowKit
set_option linter.unusedVariables false

theorem joinW_le (l : Ws) : (joinW l).length ≤ lenJ l := by
  have := joinW_len l l.length (Nat.le_refl _)
  rwa [List.take_length] at this
theorem itoa_len {v : Int} (h0 : 0 ≤ v) (h1 : v ≤ 9223372036854775807) : (Lib.itoa v).length ≤ 19 := by
  obtain ⟨n, rfl⟩ := Int.eq_ofNat_of_zero_le h0
  unfold Lib.itoa
  rw [if_neg (by omega)]
  exact digits_short (by omega)
theorem perm3 {α : Type} (a b c : α) (cs : List α) : (a :: b :: c :: cs).Perm (b :: c :: a :: cs) :=
  (List.Perm.swap _ _ _).trans (List.Perm.cons _ (List.Perm.swap _ _ _))

set_option maxHeartbeats 800000 in
set_option maxRecDepth 1000000 in
/-- A line is refused. -/
theorem refuse_any {G : Nat} {a0 a1 a2 a3 a4 a5 tov : Value} {tl : List UInt8} {no er : Int} {cs : List Comp} {w : World} (A : All (blkC G [a0, a1, a2, a3, a4, a5, tov] 79 :: ownC 5 tov (cellsB tl) :: cs) w) (hV : ∀ W, All cs W → Vars W) (h0 : 0 ≤ no) (h1 : no ≤ 4611686018427387904) (e0 : 0 ≤ er) (e1 : er ≤ 4611686018427387904) (ht : tl.length ≤ 100000000000000) :
    Calls Tryz.prog 54 #[.pointer (some ⟨G, 3, none⟩), .int .i64 no, .int .i64 er] w fun e w' => e = .returned (.tuple #[]) ∧ ∃ tov', All (blkC G [a0, a1, a2, a3, a4, a5, tov'] 79 :: ownC 5 tov' (cellsB (tl ++ refL no er)) :: cs) w' := by
  have C61 := hid (Itoa_any (hV w A.tail.tail) e0 (by omega))
  have n1 := itoa_len h0 (by omega)
  have n2 := itoa_len e0 (by omega)
  have hJ : lenJ (Lib.itoa no :: [refuB, Lib.itoa er]) ≤ 100000000 := by
    unfold lenJ
    simp only [List.map_cons, List.map_nil, List.sum_cons, List.sum_nil, refuB, List.length_cons, List.length_nil]
    omega
  have C62 : Hid (∀ W : World, All (ownC 9 (.slice (some ⟨W.heap.size, 0, none⟩) 2 2) (txW [refuB, Lib.itoa er]) :: blkC G [a0, a1, a2, a3, a4, a5, tov] 79 :: ownC 5 tov (cellsB tl) :: cs) (W.alloc (.cells (txW [refuB, Lib.itoa er]).toArray 9)) → Calls Tryz.prog 62 #[.pointer (some ⟨G, 3, none⟩), .int .i64 no, .slice (some ⟨W.heap.size, 0, none⟩) 2 2] (W.alloc (.cells (txW [refuB, Lib.itoa er]).toArray 9)) fun e w' => e = .returned (.tuple #[]) ∧ ∃ tov', All (blkC G [a0, a1, a2, a3, a4, a5, tov'] 79 :: ownC 5 tov' (cellsB (tl ++ refL no er)) :: cs) w') := hid (fun W hW => by
    refine (tell_any (l := [refuB, Lib.itoa er]) (hW.perm (perm3 _ _ _ _)) (fun W' h' => hV W' h'.tail) (fun W' h' => rt_own h') h0 h1 (by simp) hJ (Nat.le_trans (joinW_le _) (by omega)) ht).mono ?_
    rintro e w' ⟨rfl, tov', A'⟩
    exact ⟨rfl, tov', (A'.perm (perm3 _ _ _ _).symm).tail⟩)
  have A0 := hid A
  clear A hV hJ n1 n2 ht h0 h1 e0 e1
  have e9 : (txW [refuB, Lib.itoa er]).toArray = #[.string ⟨#[114, 101, 102, 117, 115, 101, 100]⟩, .string ⟨(Lib.itoa er).toArray⟩] := rfl
  have HO : Hid (∀ W : World, All (blkC G [a0, a1, a2, a3, a4, a5, tov] 79 :: ownC 5 tov (cellsB tl) :: cs) W → All (ownC 9 (.slice (some ⟨W.heap.size, 0, none⟩) 2 2) (txW [refuB, Lib.itoa er]) :: blkC G [a0, a1, a2, a3, a4, a5, tov] 79 :: ownC 5 tov (cellsB tl) :: cs) (W.alloc (.cells (txW [refuB, Lib.itoa er]).toArray 9))) := hid (fun W h => own_new h [refuB, Lib.itoa er] (by simp))
  generalize txW [refuB, Lib.itoa er] = TT at *
  rw [e9] at C62 HO
  clear e9
  generalize refL no er = RR at *
  generalize Lib.itoa er = X at *
  go_enter Tryz.func54, Tryz.ntmps54
  go_wp2_with (first | (go_at_call 61; refine C61.out.mono ?_; rintro e w1 ⟨rfl, B1⟩; have A1 := hid (A0.out.later B1); clear B1) | (go_at_call 62; refine (C62.out _ (HO.out _ A1.out)).mono ?_; rintro e w3 ⟨rfl, tov', B3⟩; have A3 := hid B3; clear B3))
  go_end0
  exact ⟨rfl, tov', A3.out⟩
/-- A line is refused. -/
theorem refuse_gt {G P : Nat} {s : Gs} {tl : List UInt8} {b m : Int} {cs : List Comp} {w : World} {no er : Int} (h : Gt G P s tl b m cs w) (hV : ∀ W, All cs W → Vars W) (h0 : 0 ≤ no) (h1 : no ≤ 4611686018427387904) (e0 : 0 ≤ er) (e1 : er ≤ 4611686018427387904) (ht : tl.length ≤ 100000000000000) :
    Calls Tryz.prog 54 #[.pointer (some ⟨G, 3, none⟩), .int .i64 no, .int .i64 er] w fun e w' => e = .returned (.tuple #[]) ∧ Gt G P s (tl ++ refL no er) b m cs w' := by
  obtain ⟨txv, wsv, tov, A⟩ := h
  refine (refuse_any (A.perm (List.Perm.cons _ (List.Perm.swap _ _ _))) (fun W hW => hV W (hW.tail.tail.tail.tail.tail)) h0 h1 e0 e1 ht).mono ?_
  rintro e w' ⟨rfl, tov', A'⟩
  exact ⟨rfl, txv, wsv, tov', A'.perm (List.Perm.cons _ (List.Perm.swap _ _ _))⟩
theorem Gt.cell {G P : Nat} {s : Gs} {tl : List UInt8} {b m : Int} {cs : List Comp} {w : World} {txv wsv tov : Value} (A : All (gtL G P s tl b m txv wsv tov ++ cs) w) (j : Nat) : w.cell? ⟨G, j, none⟩ = (gtV s P txv wsv tov)[j]? := by
  have := cell_at (w := w) A.1.2.1 j
  rw [this]
  simp
theorem Gt.free {G P : Nat} {s : Gs} {tl : List UInt8} {b m : Int} {cs : List Comp} {w : World} {txv wsv tov : Value} (A : All (gtL G P s tl b m txv wsv tov ++ cs) w) (j : Nat) : w.frozen? ⟨G, j, none⟩ = false := free_at A.1.2.1 j

set_option maxHeartbeats 800000 in
set_option maxRecDepth 1000000 in
/-- A piece is added to the line. -/
theorem add_gt {G P : Nat} {s : Gs} {tl : List UInt8} {b m : Int} {cs : List Comp} {w : World} {v : Value} {p : List UInt8} (h : Gt G P s tl b m cs w) (hs : s.ok) (hR : Reads w v p) (hp : p.length ≤ 100000000000000) :
    Calls Tryz.prog 32 #[.pointer (some ⟨G, 0, none⟩), v] w fun e w' => e = .returned (.tuple #[]) ∧ Gt G P (addM s p) tl b m cs w' := by
  obtain ⟨txv, wsv, tov, A⟩ := h
  obtain ⟨ao, c, rfl⟩ := hR.form
  obtain ⟨at_, ct, rfl⟩ := owns_form A.tail.1.2.1
  rw [cellsB_length] at A
  have c1 : w.cell? ⟨G, 1, none⟩ = some (.slice at_ s.tx.length ct) := Gt.cell A 1
  have c2 : w.cell? ⟨G, 2, none⟩ = some (.bool s.long) := Gt.cell A 2
  have f1 := Gt.free A 1
  have f2 := Gt.free A 2
  have h8 := hs.2
  have N : Hid (Gt G P { s with tx := [], long := true } tl b m cs ((w.setCell ⟨G, 1, none⟩ (.slice none 0 0)).setCell ⟨G, 2, none⟩ (.bool true))) := hid (by
    have A2 := ((A.setBlk 1 (.slice none 0 0)).setBlk 2 (.bool true)).swap.tail
    exact ⟨.slice none 0 0, wsv, tov, (All.addNil (e := 5) A2).swap⟩)
  have w8 : IntKind.i64.wrap (8192 - (s.tx.length : Int)) = 8192 - (s.tx.length : Int) := by rw [IntKind.wrap_i64]; omega
  by_cases h1 : s.long = true
  · have e1 : addM s p = { s with tx := [], long := true } := by unfold addM; rw [if_pos (Or.inl h1)]
    rw [e1]
    rw [h1] at c2
    clear A hs hR hp h8 h1 e1
    generalize s.tx.length = n at *
    go_enter Tryz.func32, Tryz.ntmps32
    go_wp2
    refine bodyPost_ret (results_none rfl _ _ _) rfl ?_
    exact ⟨rfl, N.out⟩
  · simp only [Bool.not_eq_true] at h1
    rw [h1] at c2
    by_cases h2 : 8192 < s.tx.length + p.length
    · have e1 : addM s p = { s with tx := [], long := true } := by unfold addM; rw [if_pos (Or.inr h2)]
      rw [e1]
      have h3 : (8192 - (s.tx.length : Int)) < (p.length : Int) := by omega
      clear A hs hR hp h8 h1 e1 h2
      generalize s.tx.length = n at *
      generalize p.length = k at *
      go_enter Tryz.func32, Tryz.ntmps32
      go_wp2
      refine bodyPost_ret (results_none rfl _ _ _) rfl ?_
      exact ⟨rfl, N.out⟩
    · have e1 : addM s p = { s with tx := s.tx ++ p } := by unfold addM; rw [if_neg (by rw [h1]; simp; omega)]
      rw [e1]
      have h3 : ¬ ((8192 - (s.tx.length : Int)) < (p.length : Int)) := by omega
      obtain ⟨ao5, c5, w5, hr5, A6⟩ := appB A.swap hR (by omega)
      have R5 := hid hr5
      have c1' : w5.cell? ⟨G, 1, none⟩ = some (.slice at_ s.tx.length ct) := by rw [cell_at A6.swap.1.2.1]; rfl
      have f1' := free_at A6.swap.1.2.1 1
      have A7 := hid (A6.swap.setBlk 1 (.slice ao5 (s.tx.length + p.length) c5))
      have N2 : Hid (Gt G P { s with tx := s.tx ++ p } tl b m cs (w5.setCell ⟨G, 1, none⟩ (.slice ao5 (s.tx.length + p.length) c5))) := hid ⟨_, wsv, tov, A7.out⟩
      clear A hs hR hp h8 h1 e1 h2 N A6 A7 hr5
      generalize s.tx.length + p.length = q at *
      generalize s.tx.length = n at *
      generalize p.length = k at *
      go_enter Tryz.func32, Tryz.ntmps32
      go_wp2_with (at_builtin; refine wpList_append_run rfl _ _ 40 rfl _ _ _ _ rfl rfl R5.out ?_)
      go_end0
      exact ⟨rfl, N2.out⟩
end Go.Proofs.YtdhkdniddjnigaaGreatDoor

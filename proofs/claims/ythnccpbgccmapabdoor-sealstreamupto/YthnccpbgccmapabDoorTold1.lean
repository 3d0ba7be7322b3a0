import Derived.Test.YthnccpbgccmapabDoorTold
namespace Go.Proofs.YthnccpbgccmapabDoor
set_option linter.unusedVariables false

theorem mul_xor (k a b : Nat) : 2 ^ k * (a ^^^ b) = 2 ^ k * a ^^^ 2 ^ k * b := by
  apply Nat.eq_of_testBit_eq
  intro i
  simp only [Nat.testBit_xor, Nat.testBit_two_pow_mul]
  by_cases h : k ≤ i <;> simp [h]

theorem valN_turn (b : List UInt8) (i : Nat) (hi : i < b.length) (y : UInt8) : valN (b.set i (b.getD i 0 ^^^ y)) = valN b ^^^ 2 ^ (8 * i) * y.toNat := by
  induction b generalizing i with
  | nil => simp at hi
  | cons c l ih =>
    cases i with
    | zero =>
      have h := (c ^^^ y).toNat_lt
      simp only [List.getD_cons_zero, List.set_cons_zero, valN, Nat.mul_zero, Nat.pow_zero, Nat.one_mul]
      rw [add_xor _ _ h, add_xor _ _ c.toNat_lt, UInt8.toNat_xor, Nat.xor_assoc, Nat.xor_assoc, Nat.xor_comm y.toNat]
    | succ i =>
      have hi' : i < l.length := by simpa using hi
      have e : 2 ^ (8 * (i + 1)) * y.toNat = 2 ^ 8 * (2 ^ (8 * i) * y.toNat) := by
        rw [Nat.mul_succ, Nat.pow_add, Nat.mul_comm (2 ^ (8 * i)), Nat.mul_assoc]
      simp only [List.getD_cons_succ, List.set_cons_succ, valN]
      rw [ih i hi', add_xor _ _ c.toNat_lt, add_xor _ _ c.toNat_lt, e, Nat.xor_assoc, ← mul_xor 8]

/-- What an error leaves. -/
theorem openP_err {b : List UInt8} {e : Nat} (h : (headP b).2 = e) (he : e ≠ 0) : openP b = ([], e) := by
  unfold openP
  rw [if_pos (by rw [h]; exact he), h]

/-- A body that is told. -/
theorem open_body {p r : List UInt8} (hp : p.length ≤ 65536) (hr : r.length = p.length + 4) (h : isSum ((r.drop p.length).take 4) (sumN (r.take p.length)) = false) : openP ((leadP p.length ++ sumB (sumN (leadP p.length))) ++ r) = ([], 24) := by
  have hh := headP_seal p r hp
  have hd : ((leadP p.length ++ sumB (sumN (leadP p.length))) ++ r).drop 9 = r := rfl
  unfold openP
  rw [hh]
  simp only []
  have hl : ((leadP p.length ++ sumB (sumN (leadP p.length))) ++ r).length = p.length + 13 := by simp [leadP_length, sumB_length, hr]; omega
  rw [if_neg (by simp), if_neg (by omega), if_neg (by omega), ← List.drop_drop, hd, if_pos h]

theorem head_sum_false {b : List UInt8} (hn : ¬ noMark b) (h9 : 9 ≤ b.length) (h : isSum ((b.drop 5).take 4) (sumN (b.take 5)) = false) : openP b = ([], 24) := by
  apply openP_err (e := 24) _ (by decide)
  unfold headP
  rw [if_neg hn, if_neg (by omega), if_pos h]

theorem told_one (p : List UInt8) (hp : p.length ≤ 65536) (i : Nat) (hi : i < p.length + 13) (y : UInt8) (hy : y ≠ 0) :
    openP ((sealP p).set i ((sealP p).getD i 0 ^^^ y)) = ([], if i < 2 then 22 else 24) := by
  have hy0 : y.toNat ≠ 0 := fun e => hy (u8_eq (by rw [e]; rfl))
  have hyl : y.toNat < 4294967296 := Nat.lt_trans y.toNat_lt (by decide)
  have hne : ∀ x : UInt8, x ^^^ y ≠ x := by
    intro x e
    have := congrArg UInt8.toNat e
    rw [UInt8.toNat_xor] at this
    have h2 : x.toNat ^^^ (x.toNat ^^^ y.toNat) = x.toNat ^^^ x.toNat := by rw [this]
    rw [← Nat.xor_assoc, Nat.xor_self, Nat.zero_xor] at h2
    exact hy0 h2
  by_cases h2 : i < 2
  · rw [if_pos h2]
    apply openP_err (e := 22) _ (by decide)
    have hm : noMark ((sealP p).set i ((sealP p).getD i 0 ^^^ y)) := by
      have hl : ((sealP p).set i ((sealP p).getD i 0 ^^^ y)).length = p.length + 13 := by rw [List.length_set, sealP_length]
      have : i = 0 ∨ i = 1 := by omega
      rcases this with rfl | rfl
      · exact Or.inl ⟨by omega, hne 70⟩
      · exact Or.inr ⟨by omega, hne 76⟩
    unfold headP
    rw [if_pos hm]
  · rw [if_neg h2]
    by_cases h9 : i < 9
    · have hl : ((sealP p).set i ((sealP p).getD i 0 ^^^ y)).length = p.length + 13 := by rw [List.length_set, sealP_length]
      have hg : ∀ j, j < 2 → ((sealP p).set i ((sealP p).getD i 0 ^^^ y)).getD j 0 = (sealP p).getD j 0 := fun j hj => by
        rw [List.getD_eq_getElem?_getD, List.getElem?_set_ne (by omega), ← List.getD_eq_getElem?_getD]
      refine head_sum_false ?_ (by omega) ?_
      · rintro (h | h)
        · exact h.2 (by rw [hg 0 (by omega)]; rfl)
        · exact h.2 (by rw [hg 1 (by omega)]; rfl)
      · apply Bool.eq_false_iff.2
        intro hS
        have ht : (sealP p).take 9 = leadP p.length ++ sumB (sumN (leadP p.length)) := rfl
        have hgi : ((sealP p).take 9).getD i 0 = (sealP p).getD i 0 := by
          rw [List.getD_eq_getElem?_getD, List.getElem?_take, if_pos h9, ← List.getD_eq_getElem?_getD]
        have hd : valN (((sealP p).set i ((sealP p).getD i 0 ^^^ y)).take 9) = valN (leadP p.length ++ sumB (sumN (leadP p.length))) ^^^ 2 ^ (8 * i) * y.toNat := by
          rw [List.take_set, ← hgi, valN_turn _ i (by rw [ht, head_len]; exact h9), ht]
        exact hy0 (head_told (by omega) hyl (by omega) hd hS)
    · have es : (sealP p).set i ((sealP p).getD i 0 ^^^ y) = (leadP p.length ++ sumB (sumN (leadP p.length))) ++ (p ++ sumB (sumN p)).set (i - 9) ((p ++ sumB (sumN p)).getD (i - 9) 0 ^^^ y) := by
        have eg : (sealP p).getD i 0 = (p ++ sumB (sumN p)).getD (i - 9) 0 := by
          rw [sealP_split, List.getD_eq_getElem?_getD, List.getElem?_append_right (by rw [head_len]; omega), head_len, ← List.getD_eq_getElem?_getD]
        rw [eg]
        conv => lhs; rw [sealP_split]
        rw [List.set_append_right _ _ (by rw [head_len]; omega), head_len]
      rw [es]
      have hbl : (p ++ sumB (sumN p)).length = p.length + 4 := by simp [sumB_length]
      refine open_body hp (by rw [List.length_set, hbl]) ?_
      apply Bool.eq_false_iff.2
      intro hS
      exact hy0 (body_told (by rw [List.length_set, hbl]) hyl (by rw [List.length_set, hbl]; omega) (valN_turn _ (i - 9) (by rw [hbl]; omega) y) hS)
end Go.Proofs.YthnccpbgccmapabDoor

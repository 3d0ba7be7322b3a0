import Derived.Test.YtkcepkehgkkkbaaGreatDoorJ14
namespace Go.Proofs.YtkcepkehgkkkbaaGreatDoor
set_option linter.unusedVariables false

theorem lim_step (n k most top : Nat) (h : n < (top + 1) * 128 ^ (most - 1 - k)) (hk : k + 1 < most) : n / 128 < (top + 1) * 128 ^ (most - 1 - (k + 1)) := by
  have e : most - 1 - k = (most - 1 - (k + 1)) + 1 := by omega
  rw [e, Nat.pow_succ, ← Nat.mul_assoc] at h
  omega

theorem lim_last (n k most top : Nat) (h : n < (top + 1) * 128 ^ (most - 1 - k)) (hk : k + 1 = most) : n ≤ top := by
  have e : most - 1 - k = 0 := by omega
  rw [e] at h
  simp at h
  omega

theorem split128 (n p : Nat) : n % 128 * p + n / 128 * (p * 128) = n * p := by
  have h : n % 128 + 128 * (n / 128) = n := Nat.mod_add_div n 128
  have e : (n % 128 + 128 * (n / 128)) * p = n * p := by rw [h]
  rw [← e, Nat.add_mul, Nat.mul_comm p 128, ← Nat.mul_assoc, Nat.mul_comm (n / 128) 128]

theorem byte_lo (n : Nat) (h : n < 128) : (UInt8.ofNat n).toNat = n := toNat_small n h

/-- What is written is read. -/
theorem look_enc (most top : Nat) (ht : top < 128) (rest : List UInt8) : ∀ (f k n acc : Nat), k < most → most - 1 - k ≤ f → n < (top + 1) * 128 ^ (most - 1 - k) → (0 < k → 0 < n) →
    look most top k (enc f n ++ rest) acc = (acc + n * 128 ^ k, k + (enc f n).length, 0) := by
  intro f
  induction f with
  | zero =>
    intro k n acc hk hf hn h0
    have hl := lim_last n k most top hn (by omega)
    have hc := byte_lo n (by omega)
    simp only [enc, List.cons_append, List.nil_append, look, hc]
    rw [if_neg (by omega), if_neg (by omega), if_neg (by omega), Nat.mod_eq_of_lt (by omega)]
    simp
  | succ f ih =>
    intro k n acc hk hf hn h0
    by_cases hs : n < 128
    · have hc := byte_lo n hs
      rw [enc_small _ _ hs]
      simp only [List.cons_append, List.nil_append, look, hc]
      have hw : ¬ (k + 1 = most ∧ top < n) := fun ⟨a, b⟩ => by have := lim_last n k most top hn a; omega
      rw [if_neg hw, if_neg (by omega), if_neg (by omega), Nat.mod_eq_of_lt hs]
      simp
    · have hkm : k + 1 < most := by
        by_cases h : k + 1 < most
        · exact h
        · have := lim_last n k most top hn (by omega); omega
      rw [enc_step f n hs]
      simp only [List.cons_append, look, toNat_of128]
      rw [if_neg (by omega), if_pos (by omega)]
      have e : (n % 128 + 128) % 128 = n % 128 := by omega
      rw [e, ih (k + 1) (n / 128) _ hkm (by omega) (lim_step n k most top hn hkm) (by omega)]
      have hp : (128 : Nat) ^ (k + 1) = 128 ^ k * 128 := Nat.pow_succ ..
      have hs := split128 n (128 ^ k)
      rw [hp]
      simp only [List.length_cons, Prod.mk.injEq, and_true]
      omega

/-- A proper beginning is short. -/
theorem look_cut (most top : Nat) (ht : top < 128) : ∀ (f k n acc m : Nat), k < most → most - 1 - k ≤ f → n < (top + 1) * 128 ^ (most - 1 - k) → m < (enc f n).length →
    look most top k ((enc f n).take m) acc = (0, 0, 10) := by
  intro f
  induction f with
  | zero =>
    intro k n acc m hk hf hn hm
    simp [enc] at hm
    subst hm
    simp [look]
  | succ f ih =>
    intro k n acc m hk hf hn hm
    cases m with
    | zero => simp [look]
    | succ m =>
      by_cases hs : n < 128
      · rw [enc_small _ _ hs] at hm; simp at hm
      · have hkm : k + 1 < most := by
          by_cases h : k + 1 < most
          · exact h
          · have := lim_last n k most top hn (by omega); omega
        rw [enc_step f n hs] at hm ⊢
        simp only [List.take_succ_cons, look, toNat_of128]
        rw [if_neg (by omega), if_pos (by omega)]
        exact ih (k + 1) (n / 128) _ m hkm (by omega) (lim_step n k most top hn hkm) (by simpa using hm)

/-- What is read is written as just these bytes. -/
theorem look_inv (most top : Nat) (ht : top < 128) (l : List UInt8) : ∀ (f k acc : Nat), k < most → most - 1 - k ≤ f → (look most top k l acc).2.2 = 0 →
    ∃ n, (look most top k l acc).1 = acc + n * 128 ^ k ∧ (look most top k l acc).2.1 = k + (enc f n).length ∧ l = enc f n ++ l.drop (enc f n).length ∧ (0 < k → 0 < n) ∧ n < (top + 1) * 128 ^ (most - 1 - k) := by
  induction l with
  | nil => intro f k acc hk hf h; simp [look] at h
  | cons c r ih =>
    intro f k acc hk hf
    unfold look
    have hc := c.toNat_lt
    by_cases hA : k + 1 = most ∧ top < c.toNat
    · rw [if_pos hA]; simp
    · rw [if_neg hA]
      by_cases hB : 128 ≤ c.toNat
      · rw [if_pos hB]
        intro h
        have hkm : k + 1 < most := by
          by_cases h : k + 1 < most
          · exact h
          · exact absurd ⟨by omega, by omega⟩ hA
        cases f with
        | zero => omega
        | succ f =>
          obtain ⟨n, h1, h2, h3, h4, h5⟩ := ih f (k + 1) _ hkm (by omega) h
          have h0 := h4 (by omega)
          have hn : ¬ c.toNat % 128 + 128 * n < 128 := by omega
          have e1 : (c.toNat % 128 + 128 * n) % 128 = c.toNat % 128 := by omega
          have e2 : (c.toNat % 128 + 128 * n) / 128 = n := by omega
          have e3 : UInt8.ofNat (c.toNat % 128 + 128) = c := by
            apply UInt8.toNat_inj.1
            rw [toNat_of128]; omega
          have ee : enc (f + 1) (c.toNat % 128 + 128 * n) = c :: enc f n := by rw [enc_step f _ hn, e1, e2, e3]
          refine ⟨c.toNat % 128 + 128 * n, ?_, ?_, ?_, by omega, ?_⟩
          · rw [h1, Nat.pow_succ, Nat.add_mul, Nat.add_assoc, Nat.mul_comm (128 ^ k) 128, ← Nat.mul_assoc, Nat.mul_comm n 128]
          · rw [h2, ee]; simp; omega
          · rw [ee]; simpa using h3
          · have e : most - 1 - k = (most - 1 - (k + 1)) + 1 := by omega
            rw [e, Nat.pow_succ, ← Nat.mul_assoc]
            omega
      · rw [if_neg hB]
        by_cases hC : c.toNat = 0 ∧ 0 < k
        · rw [if_pos hC]; simp
        · rw [if_neg hC]
          intro _
          have e3 : UInt8.ofNat c.toNat = c := by
            apply UInt8.toNat_inj.1
            rw [toNat_small _ (by omega)]
          have ee : enc f c.toNat = [c] := by rw [enc_small f _ (by omega), e3]
          refine ⟨c.toNat, ?_, ?_, ?_, by omega, ?_⟩
          · rw [Nat.mod_eq_of_lt (by omega)]
          · rw [ee]; rfl
          · rw [ee]; rfl
          · by_cases h : k + 1 = most
            · have e : most - 1 - k = 0 := by omega
              rw [e]
              simp
              by_cases h' : top < c.toNat
              · exact absurd ⟨h, h'⟩ hA
              · omega
            · have e : most - 1 - k = (most - 1 - (k + 1)) + 1 := by omega
              rw [e, Nat.pow_succ, ← Nat.mul_assoc]
              have : 1 ≤ (top + 1) * 128 ^ (most - 1 - (k + 1)) := Nat.mul_pos (by omega) (Nat.pow_pos (by omega))
              omega

theorem lim9 : (127 + 1) * 128 ^ (9 - 1 - 0) = 9223372036854775808 := by decide
theorem lim10 : (1 + 1) * 128 ^ (10 - 1 - 0) = 18446744073709551616 := by decide

theorem numR_enc (n : Nat) (hn : n < 9223372036854775808) (rest : List UInt8) (most above : Int) (hm : (n : Int) ≤ most) : numR (enc 9 n ++ rest) most above = ((n : Int), (enc 9 n).length, 0) := by
  have h := look_enc 9 127 (by omega) rest 9 0 n 0 (by omega) (by omega) (by rw [lim9]; exact hn) (by omega)
  unfold numR
  rw [h]
  simp only [Nat.pow_zero, Nat.mul_one, Nat.zero_add, if_true]
  rw [if_neg (by omega)]

theorem numR_cut (n : Nat) (hn : n < 9223372036854775808) (m : Nat) (hm : m < (enc 9 n).length) (most above : Int) : numR ((enc 9 n).take m) most above = (0, 0, 10) := by
  have h := look_cut 9 127 (by omega) 9 0 n 0 m (by omega) (by omega) (by rw [lim9]; exact hn) hm
  unfold numR
  rw [h]
  rfl

theorem unfold_fold (n : Int) : unfoldN (foldN n) = n := by
  unfold unfoldN foldN
  by_cases h : n < 0
  · rw [if_pos h, if_pos (by omega)]; omega
  · rw [if_neg h, if_neg (by omega)]; omega

theorem fold_unfold (n : Nat) : foldN (unfoldN n) = n := by
  unfold unfoldN foldN
  by_cases h : n % 2 = 1
  · rw [if_pos h, if_pos (by omega)]; omega
  · rw [if_neg h, if_neg (by omega)]; omega

theorem runR_enc (l rest : List UInt8) (hl : l.length < 9223372036854775808) (most : Int) (hm : (l.length : Int) ≤ most) : runR (enc 9 l.length ++ (l ++ rest)) most = (l, (enc 9 l.length).length + l.length, 0) := by
  have h := numR_enc l.length hl (l ++ rest) most 14 hm
  unfold runR
  rw [h]
  simp only [if_true]
  rw [if_neg (by simp; omega)]
  simp

theorem runR_cut (l : List UInt8) (hl : l.length < 9223372036854775808) (m : Nat) (hm : m < (enc 9 l.length ++ l).length) (most : Int) (hmost : (l.length : Int) ≤ most) : (runR ((enc 9 l.length ++ l).take m) most).2.2 = 10 ∧ (runR ((enc 9 l.length ++ l).take m) most).1 = [] := by
  by_cases h : m < (enc 9 l.length).length
  · rw [List.take_append_of_le_length (by omega)]
    have e := numR_cut l.length hl m h most 14
    unfold runR
    rw [e]
    simp
  · have e : (enc 9 l.length ++ l).take m = enc 9 l.length ++ l.take (m - (enc 9 l.length).length) := by
      rw [List.take_append, List.take_of_length_le (by omega)]
    rw [e]
    have h' := numR_enc l.length hl (l.take (m - (enc 9 l.length).length)) most 14 hmost
    unfold runR
    rw [h']
    rw [List.length_append] at hm
    simp only [if_true]
    rw [if_pos (by simp; omega)]
    simp

end Go.Proofs.YtkcepkehgkkkbaaGreatDoor

namespace Go.Proofs.YtkcepkehgkkkbaaGreatDoor
open Go.RowKit
set_option linter.unusedVariables false

abbrev emp : ByteArray := ⟨#[]⟩
def Rst.size (r : Rst) : Nat := r.place + r.rs.length
theorem aft_size (r : Rst) (size : Nat) (e : Int) (h : e = 0 → size ≤ r.rs.length) : (r.aft size e).size ≤ r.size := by
  unfold Rst.aft Rst.size aft
  split
  · rename_i he
    have := h he
    simp only [List.length_drop]
    omega
  · simp only [List.length_nil]; omega
theorem num_size (r : Rst) (m : Int) : (r.num m).size ≤ r.size := aft_size r _ _ (fun _ => numR_size _ _ _)
theorem txt_size (r : Rst) (m : Int) : (r.txt m).size ≤ r.size := aft_size r _ _ (runR_size _ _).1

theorem numR_le (rs : List UInt8) (most above : Int) (hm : 0 ≤ most) : (numR rs most above).1 ≤ most := by
  rw [numR_eq]
  split
  · split
    · simpa using hm
    · simp only; omega
  · simpa using hm

theorem numR_inv (rs : List UInt8) (most above : Int) (h : (numR rs most above).2.2 = 0) (hab : above ≠ 0) : ∃ n : Nat, (numR rs most above).1 = (n : Int) ∧ (n : Int) ≤ most ∧ n < 9223372036854775808 ∧ (numR rs most above).2.1 = (enc 9 n).length ∧ rs = enc 9 n ++ rs.drop (enc 9 n).length := by
  have hb := (look_bound 9 127 (by omega) (by omega) (by omega) rs 0 0 (by omega) (by simp)).2.1 (by omega)
  unfold numR at h ⊢
  by_cases h1 : (look 9 127 0 rs 0).2.2 = 0
  · rw [if_pos h1] at h ⊢
    by_cases h2 : most < ((look 9 127 0 rs 0).1 : Int)
    · rw [if_pos h2] at h
      exact absurd h hab
    · rw [if_neg h2]
      obtain ⟨n, e1, e2, e3, _, _⟩ := look_inv 9 127 (by omega) rs 9 0 0 (by omega) (by omega) h1
      rw [Nat.pow_zero, Nat.mul_one, Nat.zero_add] at e1
      rw [Nat.zero_add] at e2
      exact ⟨n, by simp [e1], by omega, by omega, e2, e3⟩
  · rw [if_neg h1] at h
    exact absurd (by simpa using h) h1

theorem runR_inv (rs : List UInt8) (most : Int) (h : (runR rs most).2.2 = 0) : ((runR rs most).1.length : Int) ≤ most ∧ (runR rs most).2.1 = (enc 9 (runR rs most).1.length ++ (runR rs most).1).length ∧ rs = (enc 9 (runR rs most).1.length ++ (runR rs most).1) ++ rs.drop (enc 9 (runR rs most).1.length ++ (runR rs most).1).length := by
  rw [runR_eq] at h ⊢
  by_cases h1 : (numR rs most 14).2.2 = 0
  · rw [if_pos h1] at h ⊢
    obtain ⟨n, e1, e0, e2, e3, e4⟩ := numR_inv rs most 14 h1 (by omega)
    by_cases h2 : ((rs.length - (numR rs most 14).2.1 : Nat) : Int) < (numR rs most 14).1
    · rw [if_pos h2] at h; simp at h
    · rw [if_neg h2]
      rw [e1, e3] at h2 ⊢
      have hl : ((rs.drop (enc 9 n).length).take n).length = n := by simp; omega
      simp only [Int.toNat_natCast]
      rw [hl, List.length_append, hl]
      refine ⟨e0, rfl, ?_⟩
      rw [List.append_assoc, ← List.drop_drop, List.take_append_drop]
      exact e4
  · rw [if_neg h1] at h
    exact absurd h h1

theorem aft_err (r : Rst) (size : Nat) (e : Int) (h : (r.aft size e).err = 0) : e = 0 ∧ r.err = 0 := by
  unfold Rst.aft aft at h
  by_cases he : e = 0
  · rw [if_pos he] at h
    exact ⟨he, h⟩
  · rw [if_neg he] at h
    simp only [keepE] at h
    split at h
    · exact absurd h he
    · exact absurd h (by assumption)
theorem aft_zero (r : Rst) (size : Nat) : r.aft size 0 = ⟨r.rs.drop size, r.place + size, r.err⟩ := by simp [Rst.aft, aft]

/-- A number that was read whole. -/
theorem num_inv (r : Rst) (m : Int) (h : (r.num m).err = 0) : r.err = 0 ∧ ∃ n : Nat, r.numV m = (n : Int) ∧ (n : Int) ≤ m ∧ n < 9223372036854775808 ∧ r.rs = enc 9 n ++ (r.num m).rs ∧ (r.num m).place = r.place + (enc 9 n).length := by
  obtain ⟨h1, h2⟩ := aft_err r _ _ h
  obtain ⟨n, e1, e0, e2, e3, e4⟩ := numR_inv r.rs m 13 h1 (by omega)
  refine ⟨h2, n, e1, e0, e2, ?_, ?_⟩
  · rw [Rst.num, h1, aft_zero, e3]; exact e4
  · rw [Rst.num, h1, aft_zero, e3]
theorem strB_size (l : List UInt8) : (strB l).size = l.length := by simp [strB, ByteArray.size]
theorem strB_data (l : List UInt8) : (strB l).data.toList = l := by simp [strB]
theorem txt_inv (r : Rst) (m : Int) (h : (r.txt m).err = 0) : r.err = 0 ∧ ((r.txtV m).size : Int) ≤ m ∧ r.rs = txtB (r.txtV m) ++ (r.txt m).rs ∧ (r.txt m).place = r.place + (txtB (r.txtV m)).length := by
  obtain ⟨h1, h2⟩ := aft_err r _ _ h
  obtain ⟨e0, e3, e4⟩ := runR_inv r.rs m h1
  have et : txtB (r.txtV m) = enc 9 (runR r.rs m).1.length ++ (runR r.rs m).1 := by
    unfold txtB Rst.txtV
    rw [strB_size, strB_data]
  refine ⟨h2, ?_, ?_, ?_⟩
  · rw [Rst.txtV, strB_size]; exact e0
  · rw [et, Rst.txt, h1, aft_zero, e3]; exact e4
  · rw [et, Rst.txt, h1, aft_zero, e3]
theorem fail_err (r : Rst) (e : Int) (h : (r.fail e).err = 0) : e = 0 ∧ r.err = 0 ∧ r.fail e = r := by
  unfold Rst.fail at h ⊢
  by_cases he : e = 0
  · rw [if_pos he] at h ⊢
    exact ⟨he, h, rfl⟩
  · rw [if_neg he] at h
    simp only [keepE] at h
    split at h
    · exact absurd h he
    · exact absurd h (by assumption)

/-- Texts that are read one behind the other. -/
def Rst.items (r : Rst) : Nat → List ByteArray × Rst
  | 0 => ([], r)
  | n + 1 => ((r.items n).1 ++ [(r.items n).2.txtV 64], (r.items n).2.txt 64)
theorem items_len (r : Rst) (n : Nat) : (r.items n).1.length = n := by
  induction n with
  | zero => rfl
  | succ n ih => simp [Rst.items, ih]
theorem items_size (r : Rst) (n : Nat) : (r.items n).2.size ≤ r.size := by
  induction n with
  | zero => exact Nat.le_refl _
  | succ n ih => exact Nat.le_trans (txt_size _ _) ih
/-- What GetOp answers. -/
def gotV (R : Rst) (k : Int) (nm tx : ByteArray) (n m : Int) : Value := if R.err = 0 then opV k nm tx n m else opV 0 emp emp 0 0
theorem res26 {tmps : Array Value} {w : World} {b : Nat} {k n m : Int} {nm tx : ByteArray} (ht : tmps.getD 2 undef = .pointer (some ⟨b, 0, none⟩)) (h : w.heap[b]? = some (.cells #[.int .i64 k, .string nm, .string tx, .int .i64 n, .int .i64 m] 35 (0, 0))) : (results Tryz.f12 tmps).run Tryz.prog w = .ok (opV k nm tx n m) w := by
  have hp' : tmps[2]?.getD undef = .pointer (some ⟨b, 0, none⟩) := by simpa using ht
  have hres : Tryz.f12.results = #[.cell 2 35] := rfl
  have x0 : w.cell? ⟨b, 0, none⟩ = some (.int .i64 k) := by rw [cell_at h]; rfl
  have x1 : w.cell? ⟨b, 1, none⟩ = some (.string nm) := by rw [cell_at h]; rfl
  have x2 : w.cell? ⟨b, 2, none⟩ = some (.string tx) := by rw [cell_at h]; rfl
  have x3 : w.cell? ⟨b, 3, none⟩ = some (.int .i64 n) := by rw [cell_at h]; rfl
  have x4 : w.cell? ⟨b, 4, none⟩ = some (.int .i64 m) := by rw [cell_at h]; rfl
  simp only [results, hres]
  go_simp

theorem textsB_snoc (l : List ByteArray) (t : ByteArray) : textsB (l ++ [t]) = textsB l ++ txtB t := by simp [textsB, txtB]
theorem items_inv (r : Rst) (n : Nat) (h : (r.items n).2.err = 0) : r.err = 0 ∧ (∀ t ∈ (r.items n).1, t.size ≤ 64) ∧ r.rs = textsB (r.items n).1 ++ (r.items n).2.rs ∧ (r.items n).2.place = r.place + (textsB (r.items n).1).length := by
  induction n with
  | zero => exact ⟨h, by simp [Rst.items], by simp [Rst.items, textsB], by simp [Rst.items, textsB]⟩
  | succ n ih =>
    have h' : ((r.items n).2.txt 64).err = 0 := h
    obtain ⟨a1, a2, a3, a4⟩ := txt_inv _ 64 h'
    obtain ⟨b1, b2, b3, b4⟩ := ih a1
    refine ⟨b1, ?_, ?_, ?_⟩
    · intro t ht
      rcases List.mem_append.1 ht with ht | ht
      · exact b2 t ht
      · have : t = (r.items n).2.txtV 64 := by simpa using ht
        subst this
        omega
    · rw [b3]
      show _ = textsB ((r.items n).1 ++ [(r.items n).2.txtV 64]) ++ ((r.items n).2.txt 64).rs
      rw [textsB_snoc, List.append_assoc, ← a3]
    · show ((r.items n).2.txt 64).place = r.place + (textsB ((r.items n).1 ++ [(r.items n).2.txtV 64])).length
      rw [a4, b4, textsB_snoc, List.length_append]
      omega
end Go.Proofs.YtkcepkehgkkkbaaGreatDoor

namespace Go.Proofs.YtkcepkehgkkkbaaGreatDoor
open Go.RowKit
set_option linter.unusedVariables false

theorem txtV_length (l : List ByteArray) : (txtV l).length = l.length := by simp [txtV]
theorem All.rev3 {a b c : Comp} {cs : List Comp} {w : World} (h : All (a :: b :: c :: cs) w) : All (c :: b :: a :: cs) w :=
  h.perm ((List.Perm.swap _ _ _).trans ((List.Perm.cons _ (List.Perm.swap _ _ _)).trans (List.Perm.swap _ _ _)))

theorem All.sublist {cs ds : List Comp} {w : World} (hs : ds.Sublist cs) (h : All cs w) : All ds w := by
  induction hs with
  | slnil => exact h
  | cons a _ ih => exact ih h.2.2
  | cons_cons a hs ih => exact ⟨h.1, fun d hd => h.2.1 d (hs.subset hd), ih h.2.2⟩

set_option maxHeartbeats 1600000 in
set_option maxRecDepth 1000000 in
theorem getItems_any {b : Nat} {D : Option Nat} {rv : Value} {r : Rst} {cs : List Comp} {w : World} (h : All (rdC b D rv r :: cs) w) (hp : r.size ≤ 140737488355328) :
    Calls Tryz.prog 63 #[.pointer (some ⟨b, 0, none⟩), .int .i64 8] w fun e w' => ∃ so sc rv', e = .returned (.slice so (((r.num 8).items (r.numV 8).toNat).1).length sc) ∧ All (ownC 9 (.slice so (((r.num 8).items (r.numV 8).toNat).1).length sc) (txtV ((r.num 8).items (r.numV 8).toNat).1) :: rdC b D rv' ((r.num 8).items (r.numV 8).toNat).2 :: cs) w' := by
  have HH := hid h
  have HP := hid hp
  obtain ⟨N, hN⟩ : ∃ N : Nat, Hid (r.numV 8 = (N : Int) ∧ N ≤ 8) := ⟨(r.numV 8).toNat, hid (by
    have h1 := numR_val r.rs 8 13
    have h2 := numR_le r.rs 8 13 (by omega)
    unfold Rst.numV
    omega)⟩
  have eN : (r.numV 8).toNat = N := by rw [hN.out.1]; simp
  rw [eN]
  clear h hp eN
  go_enter Tryz.func63, Tryz.ntmps63
  go_wp2_with fail
  refine (numRd HH.out (by have := HP.out; unfold Rst.size at this; exact this) 8).mono ?_
  rw [hN.out.1]
  rintro e w1 ⟨rfl, rv1, A1⟩
  have A1 := hid A1
  have hN8 := hN.out.2
  clear HH
  obtain ⟨i0, hi, hz0, hz1, hz2⟩ := info_parts Tryz.info9
  go_wp2
  go_loopw [5, 9] (fun vv iv wr => ∃ (k : Nat) (so : Option Addr) (sc : Nat) (rv' : Value), vv = .slice so k sc ∧ iv = .int .i64 (k : Int) ∧ k ≤ N ∧ Hid (All (ownC 9 (.slice so k sc) (txtV ((r.num 8).items k).1) :: rdC b D rv' ((r.num 8).items k).2 :: cs) wr)) (fun vv iv _ => N - (intOf iv).toNat)
  case atStart => exact ⟨0, none, 0, rv1, rfl, rfl, Nat.zero_le _, hid A1.out.addNil⟩
  case round =>
    obtain ⟨k, so, sc, rv', rfl, rfl, hk, AR⟩ := hrel
    clear A1
    by_cases hlt : k < N
    · have el : decide ((k : Int) < (N : Int)) = true := by simpa using hlt
      have HB : Hid (((r.num 8).items k).2.place + ((r.num 8).items k).2.rs.length ≤ 140737488355328) := hid (by
        have h1 := items_size (r.num 8) k
        have h2 := num_size r 8
        have h3 := HP.out
        unfold Rst.size at h1 h2 h3
        omega)
      go_wp2_with fail
      refine (textRd AR.out.swap HB.out 64).mono ?_
      rintro e w2 ⟨rfl, rv2, A2⟩
      have A3 := hid (A2.swap.alloc (.cells #[.string (((r.num 8).items k).2.txtV 64)] 9))
      have hrow : (w2.alloc (.cells #[.string (((r.num 8).items k).2.txtV 64)] 9)).ownsRow 0 9 1 (.slice so k sc) k (txtV ((r.num 8).items k).1) := by
        have h1 : (w2.alloc (.cells #[.string (((r.num 8).items k).2.txtV 64)] 9)).ownsRow 0 9 1 (.slice so k sc) (txtV ((r.num 8).items k).1).length (txtV ((r.num 8).items k).1) := A3.out.1.2.1
        rw [txtV_length, items_len] at h1
        exact h1
      have hnews : ∀ j u, [.string (((r.num 8).items k).2.txtV 64)][j]? = some u → (w2.alloc (.cells #[.string (((r.num 8).items k).2.txtV 64)] 9)).cell? ((⟨w2.heap.size, 0, none⟩ : Addr).add j) = some u := by
        intro j u hu
        rw [Addr.add_lit, cell_at (heap_alloc_new w2 _)]
        cases j with
        | zero => simpa using hu
        | succ j => simp at hu
      have hone : ∀ u ∈ [Value.string (((r.num 8).items k).2.txtV 64)], u.oneCell' = true := by
        intro u hu
        simp only [List.mem_singleton] at hu
        subst hu
        rfl
      clear AR A2
      go_wp2_with (at_builtin; refine wpList_append_own_at _ rfl (.tmp 11) (.tmp 14) 39 rfl 0 9 i0 (.string (.mk #[])) 1 16 Tryz.und39 hi hz0 hz1 hz2 rfl (by decide) _ _ _ rfl hrow ⟨w2.heap.size, 0, none⟩ 1 1 [.string (((r.num 8).items k).2.txtV 64)] rfl rfl hnews hone (by unfold maxLen; omega) (by omega) (by simp) ?_)
      intro v' w3 hown hgr _ hat
      have A4 := A3.out.ownGrow (vs' := txtV ((r.num 8).items (k + 1)).1) (base := 0) (v' := v') (by
        rw [txtV_length, items_len]
        simpa [Rst.items, txtV] using hown) hgr (by simpa using hat)
      obtain ⟨so', sc', rfl⟩ := owns_form hown
      have A4 := hid A4
      clear hown hgr hat A3 hrow hnews hone
      go_wp2
      go_roundw
      case rel => exact ⟨k + 1, so', sc', rv2, rfl, by go_num, by omega, A4⟩
      case measure => simp [intOf]; omega
    · have el : decide ((k : Int) < (N : Int)) = false := by simp; omega
      obtain rfl : k = N := by omega
      go_wp2
      go_ret
      refine ⟨so, sc, rv', by rw [items_len]; rfl, ?_⟩
      rw [items_len]
      exact AR.out

theorem rot4 (a b c d : Comp) (cs : List Comp) : List.Perm (a :: b :: c :: d :: cs) (d :: c :: a :: b :: cs) := by
  have h1 : List.Perm ([a, b] ++ [c, d]) ([c, d] ++ [a, b]) := List.perm_append_comm
  have h2 : List.Perm ([c, d] ++ [a, b]) ([d, c] ++ [a, b]) := (List.Perm.swap d c []).append_right _
  exact (h1.trans h2).append_right cs
theorem rot3 (a b c : Comp) (cs : List Comp) : List.Perm (a :: b :: c :: cs) (c :: a :: b :: cs) := by
  have h1 : List.Perm ([a, b] ++ [c]) ([c] ++ [a, b]) := List.perm_append_comm
  exact h1.append_right cs

/-- A result as it is read. -/
structure Res where
  c : Int
  k : Int
  l : List ByteArray
def Rst.res0 (r : Rst) : Res × Rst :=
  if r.numV 4 = 0 then (⟨0, (r.num 4).numV 1099511627776, (((r.num 4).num 1099511627776).num 8 |>.items (((r.num 4).num 1099511627776).numV 8).toNat).1⟩, (((r.num 4).num 1099511627776).num 8 |>.items (((r.num 4).num 1099511627776).numV 8).toNat).2)
  else (⟨r.numV 4, 0, []⟩, r.num 4)
def Rst.resV (r : Rst) : Res := if r.res0.2.err = 0 then r.res0.1 else ⟨0, 0, []⟩
def Rst.res (r : Rst) : Rst := r.res0.2

theorem res28 {tmps : Array Value} {w : World} {b : Nat} {c k : Int} {s : Value} (ht : tmps.getD 2 undef = .pointer (some ⟨b, 0, none⟩)) (h : w.heap[b]? = some (.cells #[.int .i64 c, .int .i64 k, s] 41 (0, 0))) : (results Tryz.f15 tmps).run Tryz.prog w = .ok (resV c k s) w := by
  have hp' : tmps[2]?.getD undef = .pointer (some ⟨b, 0, none⟩) := by simpa using ht
  have hres : Tryz.f15.results = #[.cell 2 41] := rfl
  have x0 : w.cell? ⟨b, 0, none⟩ = some (.int .i64 c) := by rw [cell_at h]; rfl
  have x1 : w.cell? ⟨b, 1, none⟩ = some (.int .i64 k) := by rw [cell_at h]; rfl
  have x2 : w.cell? ⟨b, 2, none⟩ = some s := by rw [cell_at h]; rfl
  simp only [results, hres]
  go_simp

set_option maxHeartbeats 1600000 in
set_option maxRecDepth 1000000 in
theorem getResult_any {b : Nat} {D : Option Nat} {rv : Value} {r : Rst} {cs : List Comp} {w : World} (h : All (rdC b D rv r :: cs) w) (hp : r.size ≤ 140737488355328) :
    Calls Tryz.prog 15 #[.pointer (some ⟨b, 0, none⟩)] w fun e w' => ∃ so sc rv', e = .returned (resV r.resV.c r.resV.k (.slice so r.resV.l.length sc)) ∧ All (ownC 9 (.slice so r.resV.l.length sc) (txtV r.resV.l) :: rdC b D rv' r.res :: cs) w' := by
  have HH := hid h
  have HP := hid hp
  clear h hp
  go_enter Tryz.func15, Tryz.ntmps15
  go_wp2_with fail
  refine (numRd (HH.out.addBlk [.int .i64 0, .int .i64 0, .slice none 0 0] 41).swap HP.out 4).mono ?_
  rintro e w1 ⟨rfl, rv1, A1⟩
  obtain ⟨c, hc⟩ : ∃ c, Hid (c = r.numV 4) := ⟨_, hid rfl⟩
  rw [← hc.out]
  have A2 := hid ((A1.addBlk [.int .i64 c, .int .i64 0, .slice none 0 0] 41).swap)
  clear HH A1
  by_cases h0 : c = 0
  · have F : Hid (r.res0 = (⟨0, (r.num 4).numV 1099511627776, (((r.num 4).num 1099511627776).num 8 |>.items (((r.num 4).num 1099511627776).numV 8).toNat).1⟩, (((r.num 4).num 1099511627776).num 8 |>.items (((r.num 4).num 1099511627776).numV 8).toNat).2)) := hid (by rw [Rst.res0, if_pos (by rw [← hc.out]; exact h0)])
    subst h0
    go_wp2_with fail
    refine (numRd A2.out (by have h1 := num_size r 4; have h2 := HP.out; unfold Rst.size at *; omega) 1099511627776).mono ?_
    rintro e w2 ⟨rfl, rv2, A3⟩
    obtain ⟨kk, hkk⟩ : ∃ kk, Hid (kk = (r.num 4).numV 1099511627776) := ⟨_, hid rfl⟩
    obtain ⟨r2, hr2⟩ : ∃ r2, Hid (r2 = (r.num 4).num 1099511627776) := ⟨_, hid rfl⟩
    rw [← hkk.out, ← hr2.out] at F
    rw [← hr2.out] at A3
    rw [← hkk.out]
    have A3 := hid A3
    have A4 := hid (A3.out.swap.setBlk 1 (.int .i64 kk)).swap
    clear A2
    have erx : w2.heap[w1.heap.size]? = some (.cells #[.int .i64 0, .int .i64 0, .slice none 0 0] 41 (0, 0)) := A3.out.tail.1.2.1
    have x0 : w2.cell? ⟨w1.heap.size, 0, none⟩ = some (.int .i64 0) := by rw [cell_at erx]; rfl
    have x1 : w2.cell? ⟨w1.heap.size, 1, none⟩ = some (.int .i64 0) := by rw [cell_at erx]; rfl
    have x2 : w2.cell? ⟨w1.heap.size, 2, none⟩ = some (.slice none 0 0) := by rw [cell_at erx]; rfl
    have fx0 : w2.frozen? ⟨w1.heap.size, 0, none⟩ = false := free_at erx 0
    have fx1 : w2.frozen? ⟨w1.heap.size, 1, none⟩ = false := free_at erx 1
    have fx2 : w2.frozen? ⟨w1.heap.size, 2, none⟩ = false := free_at erx 2
    clear erx
    clear A3
    go_wp2_with fail
    refine (getItems_any A4.out (by have h1 := num_size r 4; have h3 := num_size (r.num 4) 1099511627776; have h2 := HP.out; rw [hr2.out]; omega)).mono ?_
    obtain ⟨L, hL⟩ : ∃ L, Hid (L = ((r2.num 8).items (r2.numV 8).toNat).1) := ⟨_, hid rfl⟩
    obtain ⟨r3, hr3⟩ : ∃ r3, Hid (r3 = ((r2.num 8).items (r2.numV 8).toNat).2) := ⟨_, hid rfl⟩
    rw [← hL.out, ← hr3.out] at F ⊢
    rintro e w3 ⟨so, sc, rv3, rfl, A5⟩
    have A5 := hid A5
    obtain ⟨nl, hnl⟩ : ∃ nl, Hid (nl = L.length) := ⟨_, hid rfl⟩
    rw [← hnl.out] at A5 ⊢
    have A6 := hid ((A5.out.rev3.setBlk 2 (.slice so nl sc)).swap)
    clear A4 x0 x1 x2 fx0 fx1 fx2
    have erx : w3.heap[w1.heap.size]? = some (.cells #[.int .i64 0, .int .i64 kk, .slice none 0 0] 41 (0, 0)) := A5.out.tail.tail.1.2.1
    have x0 : w3.cell? ⟨w1.heap.size, 0, none⟩ = some (.int .i64 0) := by rw [cell_at erx]; rfl
    have x1 : w3.cell? ⟨w1.heap.size, 1, none⟩ = some (.int .i64 kk) := by rw [cell_at erx]; rfl
    have x2 : w3.cell? ⟨w1.heap.size, 2, none⟩ = some (.slice none 0 0) := by rw [cell_at erx]; rfl
    have fx0 : w3.frozen? ⟨w1.heap.size, 0, none⟩ = false := free_at erx 0
    have fx1 : w3.frozen? ⟨w1.heap.size, 1, none⟩ = false := free_at erx 1
    have fx2 : w3.frozen? ⟨w1.heap.size, 2, none⟩ = false := free_at erx 2
    clear erx
    clear A5
    go_wp2_with fail
    refine (wholeRd A6.out).mono ?_
    rintro e w4 ⟨rfl, A7⟩
    have A7 := hid A7
    clear A6 x0 x1 x2 fx0 fx1 fx2
    have A7 : Hid (All (rdC b D rv3 r3 :: blkC w1.heap.size [.int .i64 0, .int .i64 kk, .slice so nl sc] 41 :: ownC 9 (.slice so nl sc) (txtV L) :: blkC w.heap.size [.int .i64 0, .int .i64 0, .slice none 0 0] 41 :: cs) w4) := A7
    have erx : w4.heap[w1.heap.size]? = some (.cells #[.int .i64 0, .int .i64 kk, .slice so nl sc] 41 (0, 0)) := A7.out.tail.1.2.1
    have x0 : w4.cell? ⟨w1.heap.size, 0, none⟩ = some (.int .i64 0) := by rw [cell_at erx]; rfl
    have x1 : w4.cell? ⟨w1.heap.size, 1, none⟩ = some (.int .i64 kk) := by rw [cell_at erx]; rfl
    have x2 : w4.cell? ⟨w1.heap.size, 2, none⟩ = some (.slice so nl sc) := by rw [cell_at erx]; rfl
    clear erx
    have err : w4.heap[w.heap.size]? = some (.cells #[.int .i64 0, .int .i64 0, .slice none 0 0] 41 (0, 0)) := A7.out.tail.tail.tail.1.2.1
    have r0 : w4.cell? ⟨w.heap.size, 0, none⟩ = some (.int .i64 0) := by rw [cell_at err]; rfl
    have r1 : w4.cell? ⟨w.heap.size, 1, none⟩ = some (.int .i64 0) := by rw [cell_at err]; rfl
    have r2 : w4.cell? ⟨w.heap.size, 2, none⟩ = some (.slice none 0 0) := by rw [cell_at err]; rfl
    have fr0 : w4.frozen? ⟨w.heap.size, 0, none⟩ = false := free_at err 0
    have fr1 : w4.frozen? ⟨w.heap.size, 1, none⟩ = false := free_at err 1
    have fr2 : w4.frozen? ⟨w.heap.size, 2, none⟩ = false := free_at err 2
    clear err
    by_cases he : r3.err = 0
    · have ee : (r3.err == 0) = true := by simpa using he
      have V : Hid (r.resV = ⟨0, kk, L⟩ ∧ r.res = r3) := hid ⟨by rw [Rst.resV, F.out, if_pos he], by rw [Rst.res, F.out]⟩
      rw [ee]
      clear he ee F
      go_wp2
      have A8 := ((((A7.out.perm (rot4 _ _ _ _ cs)).setBlk 0 (.int .i64 0)).setBlk 1 (.int .i64 kk)).setBlk 2 (.slice so nl sc))
      refine bodyPost_ret (v := resV 0 kk (.slice so nl sc)) (res28 (b := w.heap.size) rfl A8.1.2.1) rfl ?_
      refine ⟨so, sc, rv3, by rw [V.out.1, hnl.out], ?_⟩
      rw [V.out.1, V.out.2, ← hnl.out]
      exact A8.tail.sublist (.cons_cons _ (.cons_cons _ (.cons _ (.refl _))))
    · have ee : (r3.err == 0) = false := by simpa using he
      have V : Hid (r.resV = ⟨0, 0, []⟩ ∧ r.res = r3) := hid ⟨by rw [Rst.resV, F.out, if_neg he], by rw [Rst.res, F.out]⟩
      rw [ee]
      clear he ee F
      go_wp2
      have A8 := ((((A7.out.perm (rot4 _ _ _ _ cs)).setBlk 0 (.int .i64 0)).setBlk 1 (.int .i64 0)).setBlk 2 (.slice none 0 0))
      refine bodyPost_ret (v := resV 0 0 (.slice none 0 0)) (res28 (b := w.heap.size) rfl A8.1.2.1) rfl ?_
      refine ⟨none, 0, rv3, by rw [V.out.1]; rfl, ?_⟩
      rw [V.out.1, V.out.2]
      exact All.addNil (A8.tail.sublist (.cons _ (.cons_cons _ (.cons _ (.refl _)))))
  · have F : Hid (r.res0 = (⟨c, 0, []⟩, r.num 4)) := hid (by rw [Rst.res0, if_neg (by rw [← hc.out]; exact h0), hc.out])
    have ec : (c == 0) = false := by simpa using h0
    go_wp2_with fail
    refine (wholeRd A2.out).mono ?_
    rintro e w4 ⟨rfl, A7⟩
    have A7 := hid A7
    clear A2
    have erx : w4.heap[w1.heap.size]? = some (.cells #[.int .i64 c, .int .i64 0, .slice none 0 0] 41 (0, 0)) := A7.out.tail.1.2.1
    have x0 : w4.cell? ⟨w1.heap.size, 0, none⟩ = some (.int .i64 c) := by rw [cell_at erx]; rfl
    have x1 : w4.cell? ⟨w1.heap.size, 1, none⟩ = some (.int .i64 0) := by rw [cell_at erx]; rfl
    have x2 : w4.cell? ⟨w1.heap.size, 2, none⟩ = some (.slice none 0 0) := by rw [cell_at erx]; rfl
    clear erx
    have err : w4.heap[w.heap.size]? = some (.cells #[.int .i64 0, .int .i64 0, .slice none 0 0] 41 (0, 0)) := A7.out.tail.tail.1.2.1
    have r0 : w4.cell? ⟨w.heap.size, 0, none⟩ = some (.int .i64 0) := by rw [cell_at err]; rfl
    have r1 : w4.cell? ⟨w.heap.size, 1, none⟩ = some (.int .i64 0) := by rw [cell_at err]; rfl
    have r2 : w4.cell? ⟨w.heap.size, 2, none⟩ = some (.slice none 0 0) := by rw [cell_at err]; rfl
    have fr0 : w4.frozen? ⟨w.heap.size, 0, none⟩ = false := free_at err 0
    have fr1 : w4.frozen? ⟨w.heap.size, 1, none⟩ = false := free_at err 1
    have fr2 : w4.frozen? ⟨w.heap.size, 2, none⟩ = false := free_at err 2
    clear err
    by_cases he : (r.num 4).err = 0
    · have ee : ((r.num 4).err == 0) = true := by simpa using he
      have V : Hid (r.resV = ⟨c, 0, []⟩ ∧ r.res = r.num 4) := hid ⟨by rw [Rst.resV, F.out, if_pos he], by rw [Rst.res, F.out]⟩
      rw [ee]
      clear he ee F
      go_wp2
      have A8 := ((((A7.out.perm (rot3 _ _ _ cs)).setBlk 0 (.int .i64 c)).setBlk 1 (.int .i64 0)).setBlk 2 (.slice none 0 0))
      refine bodyPost_ret (v := resV c 0 (.slice none 0 0)) (res28 (b := w.heap.size) rfl A8.1.2.1) rfl ?_
      refine ⟨none, 0, rv1, by rw [V.out.1]; rfl, ?_⟩
      rw [V.out.1, V.out.2]
      exact All.addNil (A8.tail.sublist (.cons_cons _ (.cons _ (.refl _))))
    · have ee : ((r.num 4).err == 0) = false := by simpa using he
      have V : Hid (r.resV = ⟨0, 0, []⟩ ∧ r.res = r.num 4) := hid ⟨by rw [Rst.resV, F.out, if_neg he], by rw [Rst.res, F.out]⟩
      rw [ee]
      clear he ee F
      go_wp2
      have A8 := ((((A7.out.perm (rot3 _ _ _ cs)).setBlk 0 (.int .i64 0)).setBlk 1 (.int .i64 0)).setBlk 2 (.slice none 0 0))
      refine bodyPost_ret (v := resV 0 0 (.slice none 0 0)) (res28 (b := w.heap.size) rfl A8.1.2.1) rfl ?_
      refine ⟨none, 0, rv1, by rw [V.out.1]; rfl, ?_⟩
      rw [V.out.1, V.out.2]
      exact All.addNil (A8.tail.sublist (.cons_cons _ (.cons _ (.refl _))))

end Go.Proofs.YtkcepkehgkkkbaaGreatDoor

namespace Go.Proofs.YtkcepkehgkkkbaaGreatDoor
open Go.RowKit
set_option linter.unusedVariables false

set_option maxHeartbeats 3200000 in
set_option maxRecDepth 1000000 in
theorem get0 {b : Nat} {D : Option Nat} {rv : Value} {r : Rst} {cs : List Comp} {w : World} (h : All (rdC b D rv r :: cs) w) (ht : ∀ w', All cs w' → Tab w') (hp : r.size ≤ 140737488355328) (hk : r.numV 8 = 0) :
    Calls Tryz.prog 12 #[.pointer (some ⟨b, 0, none⟩)] w fun e w' => e = .returned (gotV ((r.num 8).fail (chkA 0 (ByteArray.size emp) (ByteArray.size emp) 0 0)) 0 emp emp 0 0) ∧ ∃ rv', All (rdC b D rv' ((r.num 8).fail (chkA 0 (ByteArray.size emp) (ByteArray.size emp) 0 0)) :: cs) w' := by
  have A := hid (h.addBlk [.int .i64 0, .string ⟨#[]⟩, .string ⟨#[]⟩, .int .i64 0, .int .i64 0] 35).swap
  have HT := hid ht
  have HK := hid hk
  have P1 := hid (num_size r 8)
  clear h ht hk
  generalize h5 : (r.num 8) = r5
  have H5 := hid h5
  clear h5
  generalize hck : chkA 0 (ByteArray.size emp) (ByteArray.size emp) 0 0 = ck
  have Hck := hid hck
  clear hck
  generalize hRR : r5.fail ck = R
  have HRR := hid hRR
  clear hRR
  go_enter Tryz.func12, Tryz.ntmps12
  go_wp2_with fail
  refine (numRd A.out hp 8).mono ?_
  rw [HK.out]
  rintro e w1 ⟨rfl, rv1, A1⟩
  have A := hid A1
  clear A1 HK
  have TB := HT.out _ A.out.tail.tail
  have t0 : w1.cell? ⟨0, 0, none⟩ = some (.int .i64 0) := TB.cell 0 (by omega)
  have t1 : w1.cell? ⟨0, 1, none⟩ = some (.int .i64 0) := TB.cell 1 (by omega)
  have t2 : w1.cell? ⟨0, 2, none⟩ = some (.int .i64 0) := TB.cell 2 (by omega)
  have t3 : w1.cell? ⟨0, 3, none⟩ = some (.int .i64 0) := TB.cell 3 (by omega)
  have t4 : w1.cell? ⟨0, 4, none⟩ = some (.int .i64 0) := TB.cell 4 (by omega)
  have t5 : w1.cell? ⟨0, 5, none⟩ = some (.int .i64 0) := TB.cell 5 (by omega)
  have t6 : w1.cell? ⟨0, 6, none⟩ = some (.int .i64 0) := TB.cell 6 (by omega)
  have t7 : w1.cell? ⟨0, 7, none⟩ = some (.int .i64 0) := TB.cell 7 (by omega)
  have tlt := TB.lt
  have A2 := (A.out.addBlk [.int .i64 0, .string emp, .string emp, .int .i64 0, .int .i64 0] 35).addBlk [.int .i64 0, .int .i64 0, .int .i64 0, .int .i64 0, .int .i64 0, .int .i64 0, .int .i64 0, .int .i64 0] 103
  have hsz : (w1.alloc (.cells [.int .i64 0, .string emp, .string emp, .int .i64 0, .int .i64 0].toArray 35)).heap.size = w1.heap.size + 1 := by simp
  rw [hsz] at A2
  clear A TB hsz
  generalize hO : w1.heap.size = o at A2 tlt
  have A := hid (A2.perm (ds := rdC b D rv1 (r.num 8) :: blkC (o + 1) [.int .i64 0, .int .i64 0, .int .i64 0, .int .i64 0, .int .i64 0, .int .i64 0, .int .i64 0, .int .i64 0] 103 :: blkC o [.int .i64 0, .string emp, .string emp, .int .i64 0, .int .i64 0] 35 :: blkC w.heap.size [.int .i64 0, .string ⟨#[]⟩, .string ⟨#[]⟩, .int .i64 0, .int .i64 0] 35 :: cs) (List.perm_middle (l₁ := [blkC (o + 1) [.int .i64 0, .int .i64 0, .int .i64 0, .int .i64 0, .int .i64 0, .int .i64 0, .int .i64 0, .int .i64 0] 103, blkC o [.int .i64 0, .string emp, .string emp, .int .i64 0, .int .i64 0] 35])))
  clear A2
  go_wp2_with fail
  refine (has_any 0 0).mono ?_
  rintro e w2 ⟨rfl, Bh⟩
  rw [show hs 0 = false by decide +kernel]
  have A := hid (A.out.later Bh)
  clear Bh hO t0 t1 t2 t3 t4 t5 t6 t7 tlt
  have hb := A.out.blk (g := o + 1) (vs := [.int .i64 0, .int .i64 0, .int .i64 0, .int .i64 0, .int .i64 0, .int .i64 0, .int .i64 0, .int .i64 0]) (t := 103) mem2
  have r2 : w2.cell? ⟨o + 1, 2, none⟩ = some (.int .i64 0) := by rw [cell_at hb]; rfl
  have r3 : w2.cell? ⟨o + 1, 3, none⟩ = some (.int .i64 0) := by rw [cell_at hb]; rfl
  clear hb
  go_wp2_with fail
  refine (has_any 0 0).mono ?_
  rintro e w3 ⟨rfl, Bh⟩
  rw [show hs 0 = false by decide +kernel]
  have A := hid (A.out.later Bh)
  clear Bh r2 r3
  have hb := A.out.blk (g := o + 1) (vs := [.int .i64 0, .int .i64 0, .int .i64 0, .int .i64 0, .int .i64 0, .int .i64 0, .int .i64 0, .int .i64 0]) (t := 103) mem2
  have r4 : w3.cell? ⟨o + 1, 4, none⟩ = some (.int .i64 0) := by rw [cell_at hb]; rfl
  have r5 : w3.cell? ⟨o + 1, 5, none⟩ = some (.int .i64 0) := by rw [cell_at hb]; rfl
  clear hb
  go_wp2_with fail
  refine (has_any 0 0).mono ?_
  rintro e w4 ⟨rfl, Bh⟩
  rw [show hs 0 = false by decide +kernel]
  have A := hid (A.out.later Bh)
  clear Bh r4 r5
  have hb := A.out.blk (g := o + 1) (vs := [.int .i64 0, .int .i64 0, .int .i64 0, .int .i64 0, .int .i64 0, .int .i64 0, .int .i64 0, .int .i64 0]) (t := 103) mem2
  have r6 : w4.cell? ⟨o + 1, 6, none⟩ = some (.int .i64 0) := by rw [cell_at hb]; rfl
  have r7 : w4.cell? ⟨o + 1, 7, none⟩ = some (.int .i64 0) := by rw [cell_at hb]; rfl
  clear hb
  go_wp2_with fail
  refine (has_any 0 0).mono ?_
  rintro e w5 ⟨rfl, Bh⟩
  rw [show hs 0 = false by decide +kernel]
  have A := hid (A.out.later Bh)
  clear Bh r6 r7
  rw [H5.out] at A
  clear H5
  have hb := A.out.blk (g := o) (vs := [.int .i64 0, .string emp, .string emp, .int .i64 0, .int .i64 0]) (t := 35) mem3
  have o0 : w5.cell? ⟨o, 0, none⟩ = some (.int .i64 0) := by rw [cell_at hb]; rfl
  have o1 : w5.cell? ⟨o, 1, none⟩ = some (.string emp) := by rw [cell_at hb]; rfl
  have o2 : w5.cell? ⟨o, 2, none⟩ = some (.string emp) := by rw [cell_at hb]; rfl
  have o3 : w5.cell? ⟨o, 3, none⟩ = some (.int .i64 0) := by rw [cell_at hb]; rfl
  have o4 : w5.cell? ⟨o, 4, none⟩ = some (.int .i64 0) := by rw [cell_at hb]; rfl
  clear hb
  go_wp2_with fail
  refine (check_any (HT.out _ A.out.tail.tail.tail.tail) 0 emp emp 0 0).mono ?_
  rw [Hck.out]
  rintro e w6 ⟨rfl, Bh⟩
  have A := hid (A.out.later Bh)
  clear Bh o0 o1 o2 o3 o4
  go_wp2_with fail
  refine (failRd A.out ck).mono ?_
  rw [HRR.out]
  rintro e w7 ⟨rfl, rv7, A1⟩
  have A := hid A1
  clear A1
  go_wp2_with fail
  refine (wholeRd A.out).mono ?_
  rintro e wz ⟨rfl, A1⟩
  have A := hid (A1.perm (ds := blkC w.heap.size [.int .i64 0, .string ⟨#[]⟩, .string ⟨#[]⟩, .int .i64 0, .int .i64 0] 35 :: rdC b D rv7 R :: blkC (o + 1) [.int .i64 0, .int .i64 0, .int .i64 0, .int .i64 0, .int .i64 0, .int .i64 0, .int .i64 0, .int .i64 0] 103 :: blkC o [.int .i64 0, .string emp, .string emp, .int .i64 0, .int .i64 0] 35 :: cs) (List.perm_middle (l₁ := [rdC b D rv7 R, blkC (o + 1) [.int .i64 0, .int .i64 0, .int .i64 0, .int .i64 0, .int .i64 0, .int .i64 0, .int .i64 0, .int .i64 0] 103, blkC o [.int .i64 0, .string emp, .string emp, .int .i64 0, .int .i64 0] 35])))
  clear A1 HT HRR Hck P1
  by_cases her : R.err = 0
  · have e1 : (R.err == 0) = true := by rw [beq_iff_eq]; exact her
    rw [e1]
    have her := hid her
    clear e1
    have hb := A.out.blk (g := w.heap.size) (vs := [.int .i64 0, .string ⟨#[]⟩, .string ⟨#[]⟩, .int .i64 0, .int .i64 0]) (t := 35) List.mem_cons_self
    have z0 : wz.cell? ⟨w.heap.size, 0, none⟩ = some (.int .i64 0) := by rw [cell_at hb]; rfl
    have zf0 : wz.frozen? ⟨w.heap.size, 0, none⟩ = false := free_at hb 0
    have z1 : wz.cell? ⟨w.heap.size, 1, none⟩ = some (.string ⟨#[]⟩) := by rw [cell_at hb]; rfl
    have zf1 : wz.frozen? ⟨w.heap.size, 1, none⟩ = false := free_at hb 1
    have z2 : wz.cell? ⟨w.heap.size, 2, none⟩ = some (.string ⟨#[]⟩) := by rw [cell_at hb]; rfl
    have zf2 : wz.frozen? ⟨w.heap.size, 2, none⟩ = false := free_at hb 2
    have z3 : wz.cell? ⟨w.heap.size, 3, none⟩ = some (.int .i64 0) := by rw [cell_at hb]; rfl
    have zf3 : wz.frozen? ⟨w.heap.size, 3, none⟩ = false := free_at hb 3
    have z4 : wz.cell? ⟨w.heap.size, 4, none⟩ = some (.int .i64 0) := by rw [cell_at hb]; rfl
    have zf4 : wz.frozen? ⟨w.heap.size, 4, none⟩ = false := free_at hb 4
    clear hb
    have hb := A.out.blk (g := o) (vs := [.int .i64 0, .string emp, .string emp, .int .i64 0, .int .i64 0]) (t := 35) mem4
    have o0 : wz.cell? ⟨o, 0, none⟩ = some (.int .i64 0) := by rw [cell_at hb]; rfl
    have o1 : wz.cell? ⟨o, 1, none⟩ = some (.string emp) := by rw [cell_at hb]; rfl
    have o2 : wz.cell? ⟨o, 2, none⟩ = some (.string emp) := by rw [cell_at hb]; rfl
    have o3 : wz.cell? ⟨o, 3, none⟩ = some (.int .i64 0) := by rw [cell_at hb]; rfl
    have o4 : wz.cell? ⟨o, 4, none⟩ = some (.int .i64 0) := by rw [cell_at hb]; rfl
    clear hb
    have A := hid ((((((A.out.setBlk 0 (.int .i64 0)).setBlk 1 (.string emp)).setBlk 2 (.string emp)).setBlk 3 (.int .i64 0)).setBlk 4 (.int .i64 0)))
    go_wp2
    refine bodyPost_ret (v := opV 0 emp emp 0 0) (res26 (b := w.heap.size) rfl A.out.1.2.1) rfl ?_
    refine ⟨by rw [gotV, if_pos her.out], rv7, ?_⟩
    exact ((A.out.tail).swap.tail).swap.tail
  · have e1 : (R.err == 0) = false := by rw [beq_eq_false_iff_ne]; exact her
    rw [e1]
    have her := hid her
    clear e1
    have hb := A.out.blk (g := w.heap.size) (vs := [.int .i64 0, .string ⟨#[]⟩, .string ⟨#[]⟩, .int .i64 0, .int .i64 0]) (t := 35) List.mem_cons_self
    have z0 : wz.cell? ⟨w.heap.size, 0, none⟩ = some (.int .i64 0) := by rw [cell_at hb]; rfl
    have zf0 : wz.frozen? ⟨w.heap.size, 0, none⟩ = false := free_at hb 0
    have z1 : wz.cell? ⟨w.heap.size, 1, none⟩ = some (.string ⟨#[]⟩) := by rw [cell_at hb]; rfl
    have zf1 : wz.frozen? ⟨w.heap.size, 1, none⟩ = false := free_at hb 1
    have z2 : wz.cell? ⟨w.heap.size, 2, none⟩ = some (.string ⟨#[]⟩) := by rw [cell_at hb]; rfl
    have zf2 : wz.frozen? ⟨w.heap.size, 2, none⟩ = false := free_at hb 2
    have z3 : wz.cell? ⟨w.heap.size, 3, none⟩ = some (.int .i64 0) := by rw [cell_at hb]; rfl
    have zf3 : wz.frozen? ⟨w.heap.size, 3, none⟩ = false := free_at hb 3
    have z4 : wz.cell? ⟨w.heap.size, 4, none⟩ = some (.int .i64 0) := by rw [cell_at hb]; rfl
    have zf4 : wz.frozen? ⟨w.heap.size, 4, none⟩ = false := free_at hb 4
    clear hb
    have A := hid ((((((A.out.setBlk 0 (.int .i64 0)).setBlk 1 (.string emp)).setBlk 2 (.string emp)).setBlk 3 (.int .i64 0)).setBlk 4 (.int .i64 0)))
    go_wp2
    refine bodyPost_ret (v := opV 0 emp emp 0 0) (res26 (b := w.heap.size) rfl A.out.1.2.1) rfl ?_
    refine ⟨by rw [gotV, if_neg her.out], rv7, ?_⟩
    exact ((A.out.tail).swap.tail).swap.tail

set_option maxHeartbeats 3200000 in
set_option maxRecDepth 1000000 in
theorem get1 {b : Nat} {D : Option Nat} {rv : Value} {r : Rst} {cs : List Comp} {w : World} (h : All (rdC b D rv r :: cs) w) (ht : ∀ w', All cs w' → Tab w') (hp : r.size ≤ 140737488355328) (hk : r.numV 8 = 1) :
    Calls Tryz.prog 12 #[.pointer (some ⟨b, 0, none⟩)] w fun e w' => e = .returned (gotV (((r.num 8).txt 16).fail (chkA 1 (ByteArray.size ((r.num 8).txtV 16)) (ByteArray.size emp) 0 0)) 1 ((r.num 8).txtV 16) emp 0 0) ∧ ∃ rv', All (rdC b D rv' (((r.num 8).txt 16).fail (chkA 1 (ByteArray.size ((r.num 8).txtV 16)) (ByteArray.size emp) 0 0)) :: cs) w' := by
  have A := hid (h.addBlk [.int .i64 0, .string ⟨#[]⟩, .string ⟨#[]⟩, .int .i64 0, .int .i64 0] 35).swap
  have HT := hid ht
  have HK := hid hk
  have P1 := hid (num_size r 8)
  clear h ht hk
  generalize hnm : ((r.num 8).txtV 16) = nm
  have Hnm := hid hnm
  clear hnm
  generalize h5 : ((r.num 8).txt 16) = r5
  have H5 := hid h5
  clear h5
  generalize hck : chkA 1 (ByteArray.size nm) (ByteArray.size emp) 0 0 = ck
  have Hck := hid hck
  clear hck
  generalize hRR : r5.fail ck = R
  have HRR := hid hRR
  clear hRR
  go_enter Tryz.func12, Tryz.ntmps12
  go_wp2_with fail
  refine (numRd A.out hp 8).mono ?_
  rw [HK.out]
  rintro e w1 ⟨rfl, rv1, A1⟩
  have A := hid A1
  clear A1 HK
  have TB := HT.out _ A.out.tail.tail
  have t0 : w1.cell? ⟨0, 8, none⟩ = some (.int .i64 1) := TB.cell 8 (by omega)
  have t1 : w1.cell? ⟨0, 9, none⟩ = some (.int .i64 16) := TB.cell 9 (by omega)
  have t2 : w1.cell? ⟨0, 10, none⟩ = some (.int .i64 0) := TB.cell 10 (by omega)
  have t3 : w1.cell? ⟨0, 11, none⟩ = some (.int .i64 0) := TB.cell 11 (by omega)
  have t4 : w1.cell? ⟨0, 12, none⟩ = some (.int .i64 0) := TB.cell 12 (by omega)
  have t5 : w1.cell? ⟨0, 13, none⟩ = some (.int .i64 0) := TB.cell 13 (by omega)
  have t6 : w1.cell? ⟨0, 14, none⟩ = some (.int .i64 0) := TB.cell 14 (by omega)
  have t7 : w1.cell? ⟨0, 15, none⟩ = some (.int .i64 0) := TB.cell 15 (by omega)
  have tlt := TB.lt
  have A2 := (A.out.addBlk [.int .i64 1, .string emp, .string emp, .int .i64 0, .int .i64 0] 35).addBlk [.int .i64 1, .int .i64 16, .int .i64 0, .int .i64 0, .int .i64 0, .int .i64 0, .int .i64 0, .int .i64 0] 103
  have hsz : (w1.alloc (.cells [.int .i64 1, .string emp, .string emp, .int .i64 0, .int .i64 0].toArray 35)).heap.size = w1.heap.size + 1 := by simp
  rw [hsz] at A2
  clear A TB hsz
  generalize hO : w1.heap.size = o at A2 tlt
  have A := hid (A2.perm (ds := rdC b D rv1 (r.num 8) :: blkC (o + 1) [.int .i64 1, .int .i64 16, .int .i64 0, .int .i64 0, .int .i64 0, .int .i64 0, .int .i64 0, .int .i64 0] 103 :: blkC o [.int .i64 1, .string emp, .string emp, .int .i64 0, .int .i64 0] 35 :: blkC w.heap.size [.int .i64 0, .string ⟨#[]⟩, .string ⟨#[]⟩, .int .i64 0, .int .i64 0] 35 :: cs) (List.perm_middle (l₁ := [blkC (o + 1) [.int .i64 1, .int .i64 16, .int .i64 0, .int .i64 0, .int .i64 0, .int .i64 0, .int .i64 0, .int .i64 0] 103, blkC o [.int .i64 1, .string emp, .string emp, .int .i64 0, .int .i64 0] 35])))
  clear A2
  go_wp2_with fail
  refine (has_any 1 16).mono ?_
  rintro e w2 ⟨rfl, Bh⟩
  rw [show hs 16 = true by decide +kernel]
  have A := hid (A.out.later Bh)
  clear Bh hO t0 t1 t2 t3 t4 t5 t6 t7 tlt
  have hb := A.out.blk (g := o + 1) (vs := [.int .i64 1, .int .i64 16, .int .i64 0, .int .i64 0, .int .i64 0, .int .i64 0, .int .i64 0, .int .i64 0]) (t := 103) mem2
  have q : w2.cell? ⟨o + 1, 1, none⟩ = some (.int .i64 16) := by rw [cell_at hb]; rfl
  clear hb
  go_wp2_with fail
  refine (textRd A.out (by have := P1.out; unfold Rst.size at *; omega) 16).mono ?_
  rw [Hnm.out]
  rintro e w3 ⟨rfl, rv3, A1⟩
  have P1 := hid (Nat.le_trans (txt_size (r.num 8) 16) P1.out)
  have A := hid (A1.perm (ds := blkC o [.int .i64 1, .string emp, .string emp, .int .i64 0, .int .i64 0] 35 :: rdC b D rv3 ((r.num 8).txt 16) :: blkC (o + 1) [.int .i64 1, .int .i64 16, .int .i64 0, .int .i64 0, .int .i64 0, .int .i64 0, .int .i64 0, .int .i64 0] 103 :: blkC w.heap.size [.int .i64 0, .string ⟨#[]⟩, .string ⟨#[]⟩, .int .i64 0, .int .i64 0] 35 :: cs) (List.perm_middle (l₁ := [rdC b D rv3 ((r.num 8).txt 16), blkC (o + 1) [.int .i64 1, .int .i64 16, .int .i64 0, .int .i64 0, .int .i64 0, .int .i64 0, .int .i64 0, .int .i64 0] 103])))
  clear A1 q
  have hb := A.out.blk (g := o) (vs := [.int .i64 1, .string emp, .string emp, .int .i64 0, .int .i64 0]) (t := 35) List.mem_cons_self
  have q : w3.cell? ⟨o, 1, none⟩ = some (.string emp) := by rw [cell_at hb]; rfl
  have qf : w3.frozen? ⟨o, 1, none⟩ = false := free_at hb 1
  clear hb
  have A := hid (show All (blkC o [.int .i64 1, .string nm, .string emp, .int .i64 0, .int .i64 0] 35 :: rdC b D rv3 ((r.num 8).txt 16) :: blkC (o + 1) [.int .i64 1, .int .i64 16, .int .i64 0, .int .i64 0, .int .i64 0, .int .i64 0, .int .i64 0, .int .i64 0] 103 :: blkC w.heap.size [.int .i64 0, .string ⟨#[]⟩, .string ⟨#[]⟩, .int .i64 0, .int .i64 0] 35 :: cs) (w3.setCell ⟨o, 1, none⟩ (.string nm)) from A.out.setBlk 1 (.string nm))
  have A := hid (A.out.perm (ds := rdC b D rv3 ((r.num 8).txt 16) :: blkC (o + 1) [.int .i64 1, .int .i64 16, .int .i64 0, .int .i64 0, .int .i64 0, .int .i64 0, .int .i64 0, .int .i64 0] 103 :: blkC o [.int .i64 1, .string nm, .string emp, .int .i64 0, .int .i64 0] 35 :: blkC w.heap.size [.int .i64 0, .string ⟨#[]⟩, .string ⟨#[]⟩, .int .i64 0, .int .i64 0] 35 :: cs) (List.perm_middle (l₁ := [rdC b D rv3 ((r.num 8).txt 16), blkC (o + 1) [.int .i64 1, .int .i64 16, .int .i64 0, .int .i64 0, .int .i64 0, .int .i64 0, .int .i64 0, .int .i64 0] 103])).symm)
  generalize hG : w3.setCell ⟨o, 1, none⟩ (.string nm) = w4 at A
  have hb := A.out.blk (g := o + 1) (vs := [.int .i64 1, .int .i64 16, .int .i64 0, .int .i64 0, .int .i64 0, .int .i64 0, .int .i64 0, .int .i64 0]) (t := 103) mem2
  have r2 : w4.cell? ⟨o + 1, 2, none⟩ = some (.int .i64 0) := by rw [cell_at hb]; rfl
  have r3 : w4.cell? ⟨o + 1, 3, none⟩ = some (.int .i64 0) := by rw [cell_at hb]; rfl
  clear hb
  go_wp2_with fail
  refine (has_any 0 0).mono ?_
  rintro e w5 ⟨rfl, Bh⟩
  rw [show hs 0 = false by decide +kernel]
  have A := hid (A.out.later Bh)
  clear Bh r2 r3
  have hb := A.out.blk (g := o + 1) (vs := [.int .i64 1, .int .i64 16, .int .i64 0, .int .i64 0, .int .i64 0, .int .i64 0, .int .i64 0, .int .i64 0]) (t := 103) mem2
  have r4 : w5.cell? ⟨o + 1, 4, none⟩ = some (.int .i64 0) := by rw [cell_at hb]; rfl
  have r5 : w5.cell? ⟨o + 1, 5, none⟩ = some (.int .i64 0) := by rw [cell_at hb]; rfl
  clear hb
  go_wp2_with fail
  refine (has_any 0 0).mono ?_
  rintro e w6 ⟨rfl, Bh⟩
  rw [show hs 0 = false by decide +kernel]
  have A := hid (A.out.later Bh)
  clear Bh r4 r5
  have hb := A.out.blk (g := o + 1) (vs := [.int .i64 1, .int .i64 16, .int .i64 0, .int .i64 0, .int .i64 0, .int .i64 0, .int .i64 0, .int .i64 0]) (t := 103) mem2
  have r6 : w6.cell? ⟨o + 1, 6, none⟩ = some (.int .i64 0) := by rw [cell_at hb]; rfl
  have r7 : w6.cell? ⟨o + 1, 7, none⟩ = some (.int .i64 0) := by rw [cell_at hb]; rfl
  clear hb
  go_wp2_with fail
  refine (has_any 0 0).mono ?_
  rintro e w7 ⟨rfl, Bh⟩
  rw [show hs 0 = false by decide +kernel]
  have A := hid (A.out.later Bh)
  clear Bh r6 r7
  rw [H5.out] at A
  clear H5
  have hb := A.out.blk (g := o) (vs := [.int .i64 1, .string nm, .string emp, .int .i64 0, .int .i64 0]) (t := 35) mem3
  have o0 : w7.cell? ⟨o, 0, none⟩ = some (.int .i64 1) := by rw [cell_at hb]; rfl
  have o1 : w7.cell? ⟨o, 1, none⟩ = some (.string nm) := by rw [cell_at hb]; rfl
  have o2 : w7.cell? ⟨o, 2, none⟩ = some (.string emp) := by rw [cell_at hb]; rfl
  have o3 : w7.cell? ⟨o, 3, none⟩ = some (.int .i64 0) := by rw [cell_at hb]; rfl
  have o4 : w7.cell? ⟨o, 4, none⟩ = some (.int .i64 0) := by rw [cell_at hb]; rfl
  clear hb
  go_wp2_with fail
  refine (check_any (HT.out _ A.out.tail.tail.tail.tail) 1 nm emp 0 0).mono ?_
  rw [Hck.out]
  rintro e w8 ⟨rfl, Bh⟩
  have A := hid (A.out.later Bh)
  clear Bh o0 o1 o2 o3 o4
  go_wp2_with fail
  refine (failRd A.out ck).mono ?_
  rw [HRR.out]
  rintro e w9 ⟨rfl, rv9, A1⟩
  have A := hid A1
  clear A1
  go_wp2_with fail
  refine (wholeRd A.out).mono ?_
  rintro e wz ⟨rfl, A1⟩
  have A := hid (A1.perm (ds := blkC w.heap.size [.int .i64 0, .string ⟨#[]⟩, .string ⟨#[]⟩, .int .i64 0, .int .i64 0] 35 :: rdC b D rv9 R :: blkC (o + 1) [.int .i64 1, .int .i64 16, .int .i64 0, .int .i64 0, .int .i64 0, .int .i64 0, .int .i64 0, .int .i64 0] 103 :: blkC o [.int .i64 1, .string nm, .string emp, .int .i64 0, .int .i64 0] 35 :: cs) (List.perm_middle (l₁ := [rdC b D rv9 R, blkC (o + 1) [.int .i64 1, .int .i64 16, .int .i64 0, .int .i64 0, .int .i64 0, .int .i64 0, .int .i64 0, .int .i64 0] 103, blkC o [.int .i64 1, .string nm, .string emp, .int .i64 0, .int .i64 0] 35])))
  clear A1 HT HRR Hck P1
  by_cases her : R.err = 0
  · have e1 : (R.err == 0) = true := by rw [beq_iff_eq]; exact her
    rw [e1]
    have her := hid her
    clear e1
    have hb := A.out.blk (g := w.heap.size) (vs := [.int .i64 0, .string ⟨#[]⟩, .string ⟨#[]⟩, .int .i64 0, .int .i64 0]) (t := 35) List.mem_cons_self
    have z0 : wz.cell? ⟨w.heap.size, 0, none⟩ = some (.int .i64 0) := by rw [cell_at hb]; rfl
    have zf0 : wz.frozen? ⟨w.heap.size, 0, none⟩ = false := free_at hb 0
    have z1 : wz.cell? ⟨w.heap.size, 1, none⟩ = some (.string ⟨#[]⟩) := by rw [cell_at hb]; rfl
    have zf1 : wz.frozen? ⟨w.heap.size, 1, none⟩ = false := free_at hb 1
    have z2 : wz.cell? ⟨w.heap.size, 2, none⟩ = some (.string ⟨#[]⟩) := by rw [cell_at hb]; rfl
    have zf2 : wz.frozen? ⟨w.heap.size, 2, none⟩ = false := free_at hb 2
    have z3 : wz.cell? ⟨w.heap.size, 3, none⟩ = some (.int .i64 0) := by rw [cell_at hb]; rfl
    have zf3 : wz.frozen? ⟨w.heap.size, 3, none⟩ = false := free_at hb 3
    have z4 : wz.cell? ⟨w.heap.size, 4, none⟩ = some (.int .i64 0) := by rw [cell_at hb]; rfl
    have zf4 : wz.frozen? ⟨w.heap.size, 4, none⟩ = false := free_at hb 4
    clear hb
    have hb := A.out.blk (g := o) (vs := [.int .i64 1, .string nm, .string emp, .int .i64 0, .int .i64 0]) (t := 35) mem4
    have o0 : wz.cell? ⟨o, 0, none⟩ = some (.int .i64 1) := by rw [cell_at hb]; rfl
    have o1 : wz.cell? ⟨o, 1, none⟩ = some (.string nm) := by rw [cell_at hb]; rfl
    have o2 : wz.cell? ⟨o, 2, none⟩ = some (.string emp) := by rw [cell_at hb]; rfl
    have o3 : wz.cell? ⟨o, 3, none⟩ = some (.int .i64 0) := by rw [cell_at hb]; rfl
    have o4 : wz.cell? ⟨o, 4, none⟩ = some (.int .i64 0) := by rw [cell_at hb]; rfl
    clear hb
    have A := hid ((((((A.out.setBlk 0 (.int .i64 1)).setBlk 1 (.string nm)).setBlk 2 (.string emp)).setBlk 3 (.int .i64 0)).setBlk 4 (.int .i64 0)))
    go_wp2
    refine bodyPost_ret (v := opV 1 nm emp 0 0) (res26 (b := w.heap.size) rfl A.out.1.2.1) rfl ?_
    refine ⟨by rw [gotV, if_pos her.out], rv9, ?_⟩
    exact ((A.out.tail).swap.tail).swap.tail
  · have e1 : (R.err == 0) = false := by rw [beq_eq_false_iff_ne]; exact her
    rw [e1]
    have her := hid her
    clear e1
    have hb := A.out.blk (g := w.heap.size) (vs := [.int .i64 0, .string ⟨#[]⟩, .string ⟨#[]⟩, .int .i64 0, .int .i64 0]) (t := 35) List.mem_cons_self
    have z0 : wz.cell? ⟨w.heap.size, 0, none⟩ = some (.int .i64 0) := by rw [cell_at hb]; rfl
    have zf0 : wz.frozen? ⟨w.heap.size, 0, none⟩ = false := free_at hb 0
    have z1 : wz.cell? ⟨w.heap.size, 1, none⟩ = some (.string ⟨#[]⟩) := by rw [cell_at hb]; rfl
    have zf1 : wz.frozen? ⟨w.heap.size, 1, none⟩ = false := free_at hb 1
    have z2 : wz.cell? ⟨w.heap.size, 2, none⟩ = some (.string ⟨#[]⟩) := by rw [cell_at hb]; rfl
    have zf2 : wz.frozen? ⟨w.heap.size, 2, none⟩ = false := free_at hb 2
    have z3 : wz.cell? ⟨w.heap.size, 3, none⟩ = some (.int .i64 0) := by rw [cell_at hb]; rfl
    have zf3 : wz.frozen? ⟨w.heap.size, 3, none⟩ = false := free_at hb 3
    have z4 : wz.cell? ⟨w.heap.size, 4, none⟩ = some (.int .i64 0) := by rw [cell_at hb]; rfl
    have zf4 : wz.frozen? ⟨w.heap.size, 4, none⟩ = false := free_at hb 4
    clear hb
    have A := hid ((((((A.out.setBlk 0 (.int .i64 0)).setBlk 1 (.string emp)).setBlk 2 (.string emp)).setBlk 3 (.int .i64 0)).setBlk 4 (.int .i64 0)))
    go_wp2
    refine bodyPost_ret (v := opV 0 emp emp 0 0) (res26 (b := w.heap.size) rfl A.out.1.2.1) rfl ?_
    refine ⟨by rw [gotV, if_neg her.out], rv9, ?_⟩
    exact ((A.out.tail).swap.tail).swap.tail

set_option maxHeartbeats 3200000 in
set_option maxRecDepth 1000000 in
theorem get2 {b : Nat} {D : Option Nat} {rv : Value} {r : Rst} {cs : List Comp} {w : World} (h : All (rdC b D rv r :: cs) w) (ht : ∀ w', All cs w' → Tab w') (hp : r.size ≤ 140737488355328) (hk : r.numV 8 = 2) :
    Calls Tryz.prog 12 #[.pointer (some ⟨b, 0, none⟩)] w fun e w' => e = .returned (gotV (((r.num 8).txt 16).fail (chkA 2 (ByteArray.size ((r.num 8).txtV 16)) (ByteArray.size emp) 0 0)) 2 ((r.num 8).txtV 16) emp 0 0) ∧ ∃ rv', All (rdC b D rv' (((r.num 8).txt 16).fail (chkA 2 (ByteArray.size ((r.num 8).txtV 16)) (ByteArray.size emp) 0 0)) :: cs) w' := by
  have A := hid (h.addBlk [.int .i64 0, .string ⟨#[]⟩, .string ⟨#[]⟩, .int .i64 0, .int .i64 0] 35).swap
  have HT := hid ht
  have HK := hid hk
  have P1 := hid (num_size r 8)
  clear h ht hk
  generalize hnm : ((r.num 8).txtV 16) = nm
  have Hnm := hid hnm
  clear hnm
  generalize h5 : ((r.num 8).txt 16) = r5
  have H5 := hid h5
  clear h5
  generalize hck : chkA 2 (ByteArray.size nm) (ByteArray.size emp) 0 0 = ck
  have Hck := hid hck
  clear hck
  generalize hRR : r5.fail ck = R
  have HRR := hid hRR
  clear hRR
  go_enter Tryz.func12, Tryz.ntmps12
  go_wp2_with fail
  refine (numRd A.out hp 8).mono ?_
  rw [HK.out]
  rintro e w1 ⟨rfl, rv1, A1⟩
  have A := hid A1
  clear A1 HK
  have TB := HT.out _ A.out.tail.tail
  have t0 : w1.cell? ⟨0, 16, none⟩ = some (.int .i64 1) := TB.cell 16 (by omega)
  have t1 : w1.cell? ⟨0, 17, none⟩ = some (.int .i64 16) := TB.cell 17 (by omega)
  have t2 : w1.cell? ⟨0, 18, none⟩ = some (.int .i64 0) := TB.cell 18 (by omega)
  have t3 : w1.cell? ⟨0, 19, none⟩ = some (.int .i64 0) := TB.cell 19 (by omega)
  have t4 : w1.cell? ⟨0, 20, none⟩ = some (.int .i64 0) := TB.cell 20 (by omega)
  have t5 : w1.cell? ⟨0, 21, none⟩ = some (.int .i64 0) := TB.cell 21 (by omega)
  have t6 : w1.cell? ⟨0, 22, none⟩ = some (.int .i64 0) := TB.cell 22 (by omega)
  have t7 : w1.cell? ⟨0, 23, none⟩ = some (.int .i64 0) := TB.cell 23 (by omega)
  have tlt := TB.lt
  have A2 := (A.out.addBlk [.int .i64 2, .string emp, .string emp, .int .i64 0, .int .i64 0] 35).addBlk [.int .i64 1, .int .i64 16, .int .i64 0, .int .i64 0, .int .i64 0, .int .i64 0, .int .i64 0, .int .i64 0] 103
  have hsz : (w1.alloc (.cells [.int .i64 2, .string emp, .string emp, .int .i64 0, .int .i64 0].toArray 35)).heap.size = w1.heap.size + 1 := by simp
  rw [hsz] at A2
  clear A TB hsz
  generalize hO : w1.heap.size = o at A2 tlt
  have A := hid (A2.perm (ds := rdC b D rv1 (r.num 8) :: blkC (o + 1) [.int .i64 1, .int .i64 16, .int .i64 0, .int .i64 0, .int .i64 0, .int .i64 0, .int .i64 0, .int .i64 0] 103 :: blkC o [.int .i64 2, .string emp, .string emp, .int .i64 0, .int .i64 0] 35 :: blkC w.heap.size [.int .i64 0, .string ⟨#[]⟩, .string ⟨#[]⟩, .int .i64 0, .int .i64 0] 35 :: cs) (List.perm_middle (l₁ := [blkC (o + 1) [.int .i64 1, .int .i64 16, .int .i64 0, .int .i64 0, .int .i64 0, .int .i64 0, .int .i64 0, .int .i64 0] 103, blkC o [.int .i64 2, .string emp, .string emp, .int .i64 0, .int .i64 0] 35])))
  clear A2
  go_wp2_with fail
  refine (has_any 1 16).mono ?_
  rintro e w2 ⟨rfl, Bh⟩
  rw [show hs 16 = true by decide +kernel]
  have A := hid (A.out.later Bh)
  clear Bh hO t0 t1 t2 t3 t4 t5 t6 t7 tlt
  have hb := A.out.blk (g := o + 1) (vs := [.int .i64 1, .int .i64 16, .int .i64 0, .int .i64 0, .int .i64 0, .int .i64 0, .int .i64 0, .int .i64 0]) (t := 103) mem2
  have q : w2.cell? ⟨o + 1, 1, none⟩ = some (.int .i64 16) := by rw [cell_at hb]; rfl
  clear hb
  go_wp2_with fail
  refine (textRd A.out (by have := P1.out; unfold Rst.size at *; omega) 16).mono ?_
  rw [Hnm.out]
  rintro e w3 ⟨rfl, rv3, A1⟩
  have P1 := hid (Nat.le_trans (txt_size (r.num 8) 16) P1.out)
  have A := hid (A1.perm (ds := blkC o [.int .i64 2, .string emp, .string emp, .int .i64 0, .int .i64 0] 35 :: rdC b D rv3 ((r.num 8).txt 16) :: blkC (o + 1) [.int .i64 1, .int .i64 16, .int .i64 0, .int .i64 0, .int .i64 0, .int .i64 0, .int .i64 0, .int .i64 0] 103 :: blkC w.heap.size [.int .i64 0, .string ⟨#[]⟩, .string ⟨#[]⟩, .int .i64 0, .int .i64 0] 35 :: cs) (List.perm_middle (l₁ := [rdC b D rv3 ((r.num 8).txt 16), blkC (o + 1) [.int .i64 1, .int .i64 16, .int .i64 0, .int .i64 0, .int .i64 0, .int .i64 0, .int .i64 0, .int .i64 0] 103])))
  clear A1 q
  have hb := A.out.blk (g := o) (vs := [.int .i64 2, .string emp, .string emp, .int .i64 0, .int .i64 0]) (t := 35) List.mem_cons_self
  have q : w3.cell? ⟨o, 1, none⟩ = some (.string emp) := by rw [cell_at hb]; rfl
  have qf : w3.frozen? ⟨o, 1, none⟩ = false := free_at hb 1
  clear hb
  have A := hid (show All (blkC o [.int .i64 2, .string nm, .string emp, .int .i64 0, .int .i64 0] 35 :: rdC b D rv3 ((r.num 8).txt 16) :: blkC (o + 1) [.int .i64 1, .int .i64 16, .int .i64 0, .int .i64 0, .int .i64 0, .int .i64 0, .int .i64 0, .int .i64 0] 103 :: blkC w.heap.size [.int .i64 0, .string ⟨#[]⟩, .string ⟨#[]⟩, .int .i64 0, .int .i64 0] 35 :: cs) (w3.setCell ⟨o, 1, none⟩ (.string nm)) from A.out.setBlk 1 (.string nm))
  have A := hid (A.out.perm (ds := rdC b D rv3 ((r.num 8).txt 16) :: blkC (o + 1) [.int .i64 1, .int .i64 16, .int .i64 0, .int .i64 0, .int .i64 0, .int .i64 0, .int .i64 0, .int .i64 0] 103 :: blkC o [.int .i64 2, .string nm, .string emp, .int .i64 0, .int .i64 0] 35 :: blkC w.heap.size [.int .i64 0, .string ⟨#[]⟩, .string ⟨#[]⟩, .int .i64 0, .int .i64 0] 35 :: cs) (List.perm_middle (l₁ := [rdC b D rv3 ((r.num 8).txt 16), blkC (o + 1) [.int .i64 1, .int .i64 16, .int .i64 0, .int .i64 0, .int .i64 0, .int .i64 0, .int .i64 0, .int .i64 0] 103])).symm)
  generalize hG : w3.setCell ⟨o, 1, none⟩ (.string nm) = w4 at A
  have hb := A.out.blk (g := o + 1) (vs := [.int .i64 1, .int .i64 16, .int .i64 0, .int .i64 0, .int .i64 0, .int .i64 0, .int .i64 0, .int .i64 0]) (t := 103) mem2
  have r2 : w4.cell? ⟨o + 1, 2, none⟩ = some (.int .i64 0) := by rw [cell_at hb]; rfl
  have r3 : w4.cell? ⟨o + 1, 3, none⟩ = some (.int .i64 0) := by rw [cell_at hb]; rfl
  clear hb
  go_wp2_with fail
  refine (has_any 0 0).mono ?_
  rintro e w5 ⟨rfl, Bh⟩
  rw [show hs 0 = false by decide +kernel]
  have A := hid (A.out.later Bh)
  clear Bh r2 r3
  have hb := A.out.blk (g := o + 1) (vs := [.int .i64 1, .int .i64 16, .int .i64 0, .int .i64 0, .int .i64 0, .int .i64 0, .int .i64 0, .int .i64 0]) (t := 103) mem2
  have r4 : w5.cell? ⟨o + 1, 4, none⟩ = some (.int .i64 0) := by rw [cell_at hb]; rfl
  have r5 : w5.cell? ⟨o + 1, 5, none⟩ = some (.int .i64 0) := by rw [cell_at hb]; rfl
  clear hb
  go_wp2_with fail
  refine (has_any 0 0).mono ?_
  rintro e w6 ⟨rfl, Bh⟩
  rw [show hs 0 = false by decide +kernel]
  have A := hid (A.out.later Bh)
  clear Bh r4 r5
  have hb := A.out.blk (g := o + 1) (vs := [.int .i64 1, .int .i64 16, .int .i64 0, .int .i64 0, .int .i64 0, .int .i64 0, .int .i64 0, .int .i64 0]) (t := 103) mem2
  have r6 : w6.cell? ⟨o + 1, 6, none⟩ = some (.int .i64 0) := by rw [cell_at hb]; rfl
  have r7 : w6.cell? ⟨o + 1, 7, none⟩ = some (.int .i64 0) := by rw [cell_at hb]; rfl
  clear hb
  go_wp2_with fail
  refine (has_any 0 0).mono ?_
  rintro e w7 ⟨rfl, Bh⟩
  rw [show hs 0 = false by decide +kernel]
  have A := hid (A.out.later Bh)
  clear Bh r6 r7
  rw [H5.out] at A
  clear H5
  have hb := A.out.blk (g := o) (vs := [.int .i64 2, .string nm, .string emp, .int .i64 0, .int .i64 0]) (t := 35) mem3
  have o0 : w7.cell? ⟨o, 0, none⟩ = some (.int .i64 2) := by rw [cell_at hb]; rfl
  have o1 : w7.cell? ⟨o, 1, none⟩ = some (.string nm) := by rw [cell_at hb]; rfl
  have o2 : w7.cell? ⟨o, 2, none⟩ = some (.string emp) := by rw [cell_at hb]; rfl
  have o3 : w7.cell? ⟨o, 3, none⟩ = some (.int .i64 0) := by rw [cell_at hb]; rfl
  have o4 : w7.cell? ⟨o, 4, none⟩ = some (.int .i64 0) := by rw [cell_at hb]; rfl
  clear hb
  go_wp2_with fail
  refine (check_any (HT.out _ A.out.tail.tail.tail.tail) 2 nm emp 0 0).mono ?_
  rw [Hck.out]
  rintro e w8 ⟨rfl, Bh⟩
  have A := hid (A.out.later Bh)
  clear Bh o0 o1 o2 o3 o4
  go_wp2_with fail
  refine (failRd A.out ck).mono ?_
  rw [HRR.out]
  rintro e w9 ⟨rfl, rv9, A1⟩
  have A := hid A1
  clear A1
  go_wp2_with fail
  refine (wholeRd A.out).mono ?_
  rintro e wz ⟨rfl, A1⟩
  have A := hid (A1.perm (ds := blkC w.heap.size [.int .i64 0, .string ⟨#[]⟩, .string ⟨#[]⟩, .int .i64 0, .int .i64 0] 35 :: rdC b D rv9 R :: blkC (o + 1) [.int .i64 1, .int .i64 16, .int .i64 0, .int .i64 0, .int .i64 0, .int .i64 0, .int .i64 0, .int .i64 0] 103 :: blkC o [.int .i64 2, .string nm, .string emp, .int .i64 0, .int .i64 0] 35 :: cs) (List.perm_middle (l₁ := [rdC b D rv9 R, blkC (o + 1) [.int .i64 1, .int .i64 16, .int .i64 0, .int .i64 0, .int .i64 0, .int .i64 0, .int .i64 0, .int .i64 0] 103, blkC o [.int .i64 2, .string nm, .string emp, .int .i64 0, .int .i64 0] 35])))
  clear A1 HT HRR Hck P1
  by_cases her : R.err = 0
  · have e1 : (R.err == 0) = true := by rw [beq_iff_eq]; exact her
    rw [e1]
    have her := hid her
    clear e1
    have hb := A.out.blk (g := w.heap.size) (vs := [.int .i64 0, .string ⟨#[]⟩, .string ⟨#[]⟩, .int .i64 0, .int .i64 0]) (t := 35) List.mem_cons_self
    have z0 : wz.cell? ⟨w.heap.size, 0, none⟩ = some (.int .i64 0) := by rw [cell_at hb]; rfl
    have zf0 : wz.frozen? ⟨w.heap.size, 0, none⟩ = false := free_at hb 0
    have z1 : wz.cell? ⟨w.heap.size, 1, none⟩ = some (.string ⟨#[]⟩) := by rw [cell_at hb]; rfl
    have zf1 : wz.frozen? ⟨w.heap.size, 1, none⟩ = false := free_at hb 1
    have z2 : wz.cell? ⟨w.heap.size, 2, none⟩ = some (.string ⟨#[]⟩) := by rw [cell_at hb]; rfl
    have zf2 : wz.frozen? ⟨w.heap.size, 2, none⟩ = false := free_at hb 2
    have z3 : wz.cell? ⟨w.heap.size, 3, none⟩ = some (.int .i64 0) := by rw [cell_at hb]; rfl
    have zf3 : wz.frozen? ⟨w.heap.size, 3, none⟩ = false := free_at hb 3
    have z4 : wz.cell? ⟨w.heap.size, 4, none⟩ = some (.int .i64 0) := by rw [cell_at hb]; rfl
    have zf4 : wz.frozen? ⟨w.heap.size, 4, none⟩ = false := free_at hb 4
    clear hb
    have hb := A.out.blk (g := o) (vs := [.int .i64 2, .string nm, .string emp, .int .i64 0, .int .i64 0]) (t := 35) mem4
    have o0 : wz.cell? ⟨o, 0, none⟩ = some (.int .i64 2) := by rw [cell_at hb]; rfl
    have o1 : wz.cell? ⟨o, 1, none⟩ = some (.string nm) := by rw [cell_at hb]; rfl
    have o2 : wz.cell? ⟨o, 2, none⟩ = some (.string emp) := by rw [cell_at hb]; rfl
    have o3 : wz.cell? ⟨o, 3, none⟩ = some (.int .i64 0) := by rw [cell_at hb]; rfl
    have o4 : wz.cell? ⟨o, 4, none⟩ = some (.int .i64 0) := by rw [cell_at hb]; rfl
    clear hb
    have A := hid ((((((A.out.setBlk 0 (.int .i64 2)).setBlk 1 (.string nm)).setBlk 2 (.string emp)).setBlk 3 (.int .i64 0)).setBlk 4 (.int .i64 0)))
    go_wp2
    refine bodyPost_ret (v := opV 2 nm emp 0 0) (res26 (b := w.heap.size) rfl A.out.1.2.1) rfl ?_
    refine ⟨by rw [gotV, if_pos her.out], rv9, ?_⟩
    exact ((A.out.tail).swap.tail).swap.tail
  · have e1 : (R.err == 0) = false := by rw [beq_eq_false_iff_ne]; exact her
    rw [e1]
    have her := hid her
    clear e1
    have hb := A.out.blk (g := w.heap.size) (vs := [.int .i64 0, .string ⟨#[]⟩, .string ⟨#[]⟩, .int .i64 0, .int .i64 0]) (t := 35) List.mem_cons_self
    have z0 : wz.cell? ⟨w.heap.size, 0, none⟩ = some (.int .i64 0) := by rw [cell_at hb]; rfl
    have zf0 : wz.frozen? ⟨w.heap.size, 0, none⟩ = false := free_at hb 0
    have z1 : wz.cell? ⟨w.heap.size, 1, none⟩ = some (.string ⟨#[]⟩) := by rw [cell_at hb]; rfl
    have zf1 : wz.frozen? ⟨w.heap.size, 1, none⟩ = false := free_at hb 1
    have z2 : wz.cell? ⟨w.heap.size, 2, none⟩ = some (.string ⟨#[]⟩) := by rw [cell_at hb]; rfl
    have zf2 : wz.frozen? ⟨w.heap.size, 2, none⟩ = false := free_at hb 2
    have z3 : wz.cell? ⟨w.heap.size, 3, none⟩ = some (.int .i64 0) := by rw [cell_at hb]; rfl
    have zf3 : wz.frozen? ⟨w.heap.size, 3, none⟩ = false := free_at hb 3
    have z4 : wz.cell? ⟨w.heap.size, 4, none⟩ = some (.int .i64 0) := by rw [cell_at hb]; rfl
    have zf4 : wz.frozen? ⟨w.heap.size, 4, none⟩ = false := free_at hb 4
    clear hb
    have A := hid ((((((A.out.setBlk 0 (.int .i64 0)).setBlk 1 (.string emp)).setBlk 2 (.string emp)).setBlk 3 (.int .i64 0)).setBlk 4 (.int .i64 0)))
    go_wp2
    refine bodyPost_ret (v := opV 0 emp emp 0 0) (res26 (b := w.heap.size) rfl A.out.1.2.1) rfl ?_
    refine ⟨by rw [gotV, if_neg her.out], rv9, ?_⟩
    exact ((A.out.tail).swap.tail).swap.tail

set_option maxHeartbeats 3200000 in
set_option maxRecDepth 1000000 in
theorem get3 {b : Nat} {D : Option Nat} {rv : Value} {r : Rst} {cs : List Comp} {w : World} (h : All (rdC b D rv r :: cs) w) (ht : ∀ w', All cs w' → Tab w') (hp : r.size ≤ 140737488355328) (hk : r.numV 8 = 3) :
    Calls Tryz.prog 12 #[.pointer (some ⟨b, 0, none⟩)] w fun e w' => e = .returned (gotV ((((r.num 8).txt 16).txt 64).fail (chkA 3 (ByteArray.size ((r.num 8).txtV 16)) (ByteArray.size (((r.num 8).txt 16).txtV 64)) 0 0)) 3 ((r.num 8).txtV 16) (((r.num 8).txt 16).txtV 64) 0 0) ∧ ∃ rv', All (rdC b D rv' ((((r.num 8).txt 16).txt 64).fail (chkA 3 (ByteArray.size ((r.num 8).txtV 16)) (ByteArray.size (((r.num 8).txt 16).txtV 64)) 0 0)) :: cs) w' := by
  have A := hid (h.addBlk [.int .i64 0, .string ⟨#[]⟩, .string ⟨#[]⟩, .int .i64 0, .int .i64 0] 35).swap
  have HT := hid ht
  have HK := hid hk
  have P1 := hid (num_size r 8)
  clear h ht hk
  generalize hnm : ((r.num 8).txtV 16) = nm
  have Hnm := hid hnm
  clear hnm
  generalize htx : (((r.num 8).txt 16).txtV 64) = tx
  have Htx := hid htx
  clear htx
  generalize h5 : (((r.num 8).txt 16).txt 64) = r5
  have H5 := hid h5
  clear h5
  generalize hck : chkA 3 (ByteArray.size nm) (ByteArray.size tx) 0 0 = ck
  have Hck := hid hck
  clear hck
  generalize hRR : r5.fail ck = R
  have HRR := hid hRR
  clear hRR
  go_enter Tryz.func12, Tryz.ntmps12
  go_wp2_with fail
  refine (numRd A.out hp 8).mono ?_
  rw [HK.out]
  rintro e w1 ⟨rfl, rv1, A1⟩
  have A := hid A1
  clear A1 HK
  have TB := HT.out _ A.out.tail.tail
  have t0 : w1.cell? ⟨0, 24, none⟩ = some (.int .i64 1) := TB.cell 24 (by omega)
  have t1 : w1.cell? ⟨0, 25, none⟩ = some (.int .i64 16) := TB.cell 25 (by omega)
  have t2 : w1.cell? ⟨0, 26, none⟩ = some (.int .i64 0) := TB.cell 26 (by omega)
  have t3 : w1.cell? ⟨0, 27, none⟩ = some (.int .i64 64) := TB.cell 27 (by omega)
  have t4 : w1.cell? ⟨0, 28, none⟩ = some (.int .i64 0) := TB.cell 28 (by omega)
  have t5 : w1.cell? ⟨0, 29, none⟩ = some (.int .i64 0) := TB.cell 29 (by omega)
  have t6 : w1.cell? ⟨0, 30, none⟩ = some (.int .i64 0) := TB.cell 30 (by omega)
  have t7 : w1.cell? ⟨0, 31, none⟩ = some (.int .i64 0) := TB.cell 31 (by omega)
  have tlt := TB.lt
  have A2 := (A.out.addBlk [.int .i64 3, .string emp, .string emp, .int .i64 0, .int .i64 0] 35).addBlk [.int .i64 1, .int .i64 16, .int .i64 0, .int .i64 64, .int .i64 0, .int .i64 0, .int .i64 0, .int .i64 0] 103
  have hsz : (w1.alloc (.cells [.int .i64 3, .string emp, .string emp, .int .i64 0, .int .i64 0].toArray 35)).heap.size = w1.heap.size + 1 := by simp
  rw [hsz] at A2
  clear A TB hsz
  generalize hO : w1.heap.size = o at A2 tlt
  have A := hid (A2.perm (ds := rdC b D rv1 (r.num 8) :: blkC (o + 1) [.int .i64 1, .int .i64 16, .int .i64 0, .int .i64 64, .int .i64 0, .int .i64 0, .int .i64 0, .int .i64 0] 103 :: blkC o [.int .i64 3, .string emp, .string emp, .int .i64 0, .int .i64 0] 35 :: blkC w.heap.size [.int .i64 0, .string ⟨#[]⟩, .string ⟨#[]⟩, .int .i64 0, .int .i64 0] 35 :: cs) (List.perm_middle (l₁ := [blkC (o + 1) [.int .i64 1, .int .i64 16, .int .i64 0, .int .i64 64, .int .i64 0, .int .i64 0, .int .i64 0, .int .i64 0] 103, blkC o [.int .i64 3, .string emp, .string emp, .int .i64 0, .int .i64 0] 35])))
  clear A2
  go_wp2_with fail
  refine (has_any 1 16).mono ?_
  rintro e w2 ⟨rfl, Bh⟩
  rw [show hs 16 = true by decide +kernel]
  have A := hid (A.out.later Bh)
  clear Bh hO t0 t1 t2 t3 t4 t5 t6 t7 tlt
  have hb := A.out.blk (g := o + 1) (vs := [.int .i64 1, .int .i64 16, .int .i64 0, .int .i64 64, .int .i64 0, .int .i64 0, .int .i64 0, .int .i64 0]) (t := 103) mem2
  have q : w2.cell? ⟨o + 1, 1, none⟩ = some (.int .i64 16) := by rw [cell_at hb]; rfl
  clear hb
  go_wp2_with fail
  refine (textRd A.out (by have := P1.out; unfold Rst.size at *; omega) 16).mono ?_
  rw [Hnm.out]
  rintro e w3 ⟨rfl, rv3, A1⟩
  have P1 := hid (Nat.le_trans (txt_size (r.num 8) 16) P1.out)
  have A := hid (A1.perm (ds := blkC o [.int .i64 3, .string emp, .string emp, .int .i64 0, .int .i64 0] 35 :: rdC b D rv3 ((r.num 8).txt 16) :: blkC (o + 1) [.int .i64 1, .int .i64 16, .int .i64 0, .int .i64 64, .int .i64 0, .int .i64 0, .int .i64 0, .int .i64 0] 103 :: blkC w.heap.size [.int .i64 0, .string ⟨#[]⟩, .string ⟨#[]⟩, .int .i64 0, .int .i64 0] 35 :: cs) (List.perm_middle (l₁ := [rdC b D rv3 ((r.num 8).txt 16), blkC (o + 1) [.int .i64 1, .int .i64 16, .int .i64 0, .int .i64 64, .int .i64 0, .int .i64 0, .int .i64 0, .int .i64 0] 103])))
  clear A1 q
  have hb := A.out.blk (g := o) (vs := [.int .i64 3, .string emp, .string emp, .int .i64 0, .int .i64 0]) (t := 35) List.mem_cons_self
  have q : w3.cell? ⟨o, 1, none⟩ = some (.string emp) := by rw [cell_at hb]; rfl
  have qf : w3.frozen? ⟨o, 1, none⟩ = false := free_at hb 1
  clear hb
  have A := hid (show All (blkC o [.int .i64 3, .string nm, .string emp, .int .i64 0, .int .i64 0] 35 :: rdC b D rv3 ((r.num 8).txt 16) :: blkC (o + 1) [.int .i64 1, .int .i64 16, .int .i64 0, .int .i64 64, .int .i64 0, .int .i64 0, .int .i64 0, .int .i64 0] 103 :: blkC w.heap.size [.int .i64 0, .string ⟨#[]⟩, .string ⟨#[]⟩, .int .i64 0, .int .i64 0] 35 :: cs) (w3.setCell ⟨o, 1, none⟩ (.string nm)) from A.out.setBlk 1 (.string nm))
  have A := hid (A.out.perm (ds := rdC b D rv3 ((r.num 8).txt 16) :: blkC (o + 1) [.int .i64 1, .int .i64 16, .int .i64 0, .int .i64 64, .int .i64 0, .int .i64 0, .int .i64 0, .int .i64 0] 103 :: blkC o [.int .i64 3, .string nm, .string emp, .int .i64 0, .int .i64 0] 35 :: blkC w.heap.size [.int .i64 0, .string ⟨#[]⟩, .string ⟨#[]⟩, .int .i64 0, .int .i64 0] 35 :: cs) (List.perm_middle (l₁ := [rdC b D rv3 ((r.num 8).txt 16), blkC (o + 1) [.int .i64 1, .int .i64 16, .int .i64 0, .int .i64 64, .int .i64 0, .int .i64 0, .int .i64 0, .int .i64 0] 103])).symm)
  generalize hG : w3.setCell ⟨o, 1, none⟩ (.string nm) = w4 at A
  have hb := A.out.blk (g := o + 1) (vs := [.int .i64 1, .int .i64 16, .int .i64 0, .int .i64 64, .int .i64 0, .int .i64 0, .int .i64 0, .int .i64 0]) (t := 103) mem2
  have r2 : w4.cell? ⟨o + 1, 2, none⟩ = some (.int .i64 0) := by rw [cell_at hb]; rfl
  have r3 : w4.cell? ⟨o + 1, 3, none⟩ = some (.int .i64 64) := by rw [cell_at hb]; rfl
  clear hb
  go_wp2_with fail
  refine (has_any 0 64).mono ?_
  rintro e w5 ⟨rfl, Bh⟩
  rw [show hs 64 = true by decide +kernel]
  have A := hid (A.out.later Bh)
  clear Bh r2 r3
  have hb := A.out.blk (g := o + 1) (vs := [.int .i64 1, .int .i64 16, .int .i64 0, .int .i64 64, .int .i64 0, .int .i64 0, .int .i64 0, .int .i64 0]) (t := 103) mem2
  have q : w5.cell? ⟨o + 1, 3, none⟩ = some (.int .i64 64) := by rw [cell_at hb]; rfl
  clear hb
  go_wp2_with fail
  refine (textRd A.out (by have := P1.out; unfold Rst.size at *; omega) 64).mono ?_
  rw [Htx.out]
  rintro e w6 ⟨rfl, rv6, A1⟩
  have P1 := hid (Nat.le_trans (txt_size ((r.num 8).txt 16) 64) P1.out)
  have A := hid (A1.perm (ds := blkC o [.int .i64 3, .string nm, .string emp, .int .i64 0, .int .i64 0] 35 :: rdC b D rv6 (((r.num 8).txt 16).txt 64) :: blkC (o + 1) [.int .i64 1, .int .i64 16, .int .i64 0, .int .i64 64, .int .i64 0, .int .i64 0, .int .i64 0, .int .i64 0] 103 :: blkC w.heap.size [.int .i64 0, .string ⟨#[]⟩, .string ⟨#[]⟩, .int .i64 0, .int .i64 0] 35 :: cs) (List.perm_middle (l₁ := [rdC b D rv6 (((r.num 8).txt 16).txt 64), blkC (o + 1) [.int .i64 1, .int .i64 16, .int .i64 0, .int .i64 64, .int .i64 0, .int .i64 0, .int .i64 0, .int .i64 0] 103])))
  clear A1 q
  have hb := A.out.blk (g := o) (vs := [.int .i64 3, .string nm, .string emp, .int .i64 0, .int .i64 0]) (t := 35) List.mem_cons_self
  have q : w6.cell? ⟨o, 2, none⟩ = some (.string emp) := by rw [cell_at hb]; rfl
  have qf : w6.frozen? ⟨o, 2, none⟩ = false := free_at hb 2
  clear hb
  have A := hid (show All (blkC o [.int .i64 3, .string nm, .string tx, .int .i64 0, .int .i64 0] 35 :: rdC b D rv6 (((r.num 8).txt 16).txt 64) :: blkC (o + 1) [.int .i64 1, .int .i64 16, .int .i64 0, .int .i64 64, .int .i64 0, .int .i64 0, .int .i64 0, .int .i64 0] 103 :: blkC w.heap.size [.int .i64 0, .string ⟨#[]⟩, .string ⟨#[]⟩, .int .i64 0, .int .i64 0] 35 :: cs) (w6.setCell ⟨o, 2, none⟩ (.string tx)) from A.out.setBlk 2 (.string tx))
  have A := hid (A.out.perm (ds := rdC b D rv6 (((r.num 8).txt 16).txt 64) :: blkC (o + 1) [.int .i64 1, .int .i64 16, .int .i64 0, .int .i64 64, .int .i64 0, .int .i64 0, .int .i64 0, .int .i64 0] 103 :: blkC o [.int .i64 3, .string nm, .string tx, .int .i64 0, .int .i64 0] 35 :: blkC w.heap.size [.int .i64 0, .string ⟨#[]⟩, .string ⟨#[]⟩, .int .i64 0, .int .i64 0] 35 :: cs) (List.perm_middle (l₁ := [rdC b D rv6 (((r.num 8).txt 16).txt 64), blkC (o + 1) [.int .i64 1, .int .i64 16, .int .i64 0, .int .i64 64, .int .i64 0, .int .i64 0, .int .i64 0, .int .i64 0] 103])).symm)
  generalize hG : w6.setCell ⟨o, 2, none⟩ (.string tx) = w7 at A
  have hb := A.out.blk (g := o + 1) (vs := [.int .i64 1, .int .i64 16, .int .i64 0, .int .i64 64, .int .i64 0, .int .i64 0, .int .i64 0, .int .i64 0]) (t := 103) mem2
  have r4 : w7.cell? ⟨o + 1, 4, none⟩ = some (.int .i64 0) := by rw [cell_at hb]; rfl
  have r5 : w7.cell? ⟨o + 1, 5, none⟩ = some (.int .i64 0) := by rw [cell_at hb]; rfl
  clear hb
  go_wp2_with fail
  refine (has_any 0 0).mono ?_
  rintro e w8 ⟨rfl, Bh⟩
  rw [show hs 0 = false by decide +kernel]
  have A := hid (A.out.later Bh)
  clear Bh r4 r5
  have hb := A.out.blk (g := o + 1) (vs := [.int .i64 1, .int .i64 16, .int .i64 0, .int .i64 64, .int .i64 0, .int .i64 0, .int .i64 0, .int .i64 0]) (t := 103) mem2
  have r6 : w8.cell? ⟨o + 1, 6, none⟩ = some (.int .i64 0) := by rw [cell_at hb]; rfl
  have r7 : w8.cell? ⟨o + 1, 7, none⟩ = some (.int .i64 0) := by rw [cell_at hb]; rfl
  clear hb
  go_wp2_with fail
  refine (has_any 0 0).mono ?_
  rintro e w9 ⟨rfl, Bh⟩
  rw [show hs 0 = false by decide +kernel]
  have A := hid (A.out.later Bh)
  clear Bh r6 r7
  rw [H5.out] at A
  clear H5
  have hb := A.out.blk (g := o) (vs := [.int .i64 3, .string nm, .string tx, .int .i64 0, .int .i64 0]) (t := 35) mem3
  have o0 : w9.cell? ⟨o, 0, none⟩ = some (.int .i64 3) := by rw [cell_at hb]; rfl
  have o1 : w9.cell? ⟨o, 1, none⟩ = some (.string nm) := by rw [cell_at hb]; rfl
  have o2 : w9.cell? ⟨o, 2, none⟩ = some (.string tx) := by rw [cell_at hb]; rfl
  have o3 : w9.cell? ⟨o, 3, none⟩ = some (.int .i64 0) := by rw [cell_at hb]; rfl
  have o4 : w9.cell? ⟨o, 4, none⟩ = some (.int .i64 0) := by rw [cell_at hb]; rfl
  clear hb
  go_wp2_with fail
  refine (check_any (HT.out _ A.out.tail.tail.tail.tail) 3 nm tx 0 0).mono ?_
  rw [Hck.out]
  rintro e w10 ⟨rfl, Bh⟩
  have A := hid (A.out.later Bh)
  clear Bh o0 o1 o2 o3 o4
  go_wp2_with fail
  refine (failRd A.out ck).mono ?_
  rw [HRR.out]
  rintro e w11 ⟨rfl, rv11, A1⟩
  have A := hid A1
  clear A1
  go_wp2_with fail
  refine (wholeRd A.out).mono ?_
  rintro e wz ⟨rfl, A1⟩
  have A := hid (A1.perm (ds := blkC w.heap.size [.int .i64 0, .string ⟨#[]⟩, .string ⟨#[]⟩, .int .i64 0, .int .i64 0] 35 :: rdC b D rv11 R :: blkC (o + 1) [.int .i64 1, .int .i64 16, .int .i64 0, .int .i64 64, .int .i64 0, .int .i64 0, .int .i64 0, .int .i64 0] 103 :: blkC o [.int .i64 3, .string nm, .string tx, .int .i64 0, .int .i64 0] 35 :: cs) (List.perm_middle (l₁ := [rdC b D rv11 R, blkC (o + 1) [.int .i64 1, .int .i64 16, .int .i64 0, .int .i64 64, .int .i64 0, .int .i64 0, .int .i64 0, .int .i64 0] 103, blkC o [.int .i64 3, .string nm, .string tx, .int .i64 0, .int .i64 0] 35])))
  clear A1 HT HRR Hck P1
  by_cases her : R.err = 0
  · have e1 : (R.err == 0) = true := by rw [beq_iff_eq]; exact her
    rw [e1]
    have her := hid her
    clear e1
    have hb := A.out.blk (g := w.heap.size) (vs := [.int .i64 0, .string ⟨#[]⟩, .string ⟨#[]⟩, .int .i64 0, .int .i64 0]) (t := 35) List.mem_cons_self
    have z0 : wz.cell? ⟨w.heap.size, 0, none⟩ = some (.int .i64 0) := by rw [cell_at hb]; rfl
    have zf0 : wz.frozen? ⟨w.heap.size, 0, none⟩ = false := free_at hb 0
    have z1 : wz.cell? ⟨w.heap.size, 1, none⟩ = some (.string ⟨#[]⟩) := by rw [cell_at hb]; rfl
    have zf1 : wz.frozen? ⟨w.heap.size, 1, none⟩ = false := free_at hb 1
    have z2 : wz.cell? ⟨w.heap.size, 2, none⟩ = some (.string ⟨#[]⟩) := by rw [cell_at hb]; rfl
    have zf2 : wz.frozen? ⟨w.heap.size, 2, none⟩ = false := free_at hb 2
    have z3 : wz.cell? ⟨w.heap.size, 3, none⟩ = some (.int .i64 0) := by rw [cell_at hb]; rfl
    have zf3 : wz.frozen? ⟨w.heap.size, 3, none⟩ = false := free_at hb 3
    have z4 : wz.cell? ⟨w.heap.size, 4, none⟩ = some (.int .i64 0) := by rw [cell_at hb]; rfl
    have zf4 : wz.frozen? ⟨w.heap.size, 4, none⟩ = false := free_at hb 4
    clear hb
    have hb := A.out.blk (g := o) (vs := [.int .i64 3, .string nm, .string tx, .int .i64 0, .int .i64 0]) (t := 35) mem4
    have o0 : wz.cell? ⟨o, 0, none⟩ = some (.int .i64 3) := by rw [cell_at hb]; rfl
    have o1 : wz.cell? ⟨o, 1, none⟩ = some (.string nm) := by rw [cell_at hb]; rfl
    have o2 : wz.cell? ⟨o, 2, none⟩ = some (.string tx) := by rw [cell_at hb]; rfl
    have o3 : wz.cell? ⟨o, 3, none⟩ = some (.int .i64 0) := by rw [cell_at hb]; rfl
    have o4 : wz.cell? ⟨o, 4, none⟩ = some (.int .i64 0) := by rw [cell_at hb]; rfl
    clear hb
    have A := hid ((((((A.out.setBlk 0 (.int .i64 3)).setBlk 1 (.string nm)).setBlk 2 (.string tx)).setBlk 3 (.int .i64 0)).setBlk 4 (.int .i64 0)))
    go_wp2
    refine bodyPost_ret (v := opV 3 nm tx 0 0) (res26 (b := w.heap.size) rfl A.out.1.2.1) rfl ?_
    refine ⟨by rw [gotV, if_pos her.out], rv11, ?_⟩
    exact ((A.out.tail).swap.tail).swap.tail
  · have e1 : (R.err == 0) = false := by rw [beq_eq_false_iff_ne]; exact her
    rw [e1]
    have her := hid her
    clear e1
    have hb := A.out.blk (g := w.heap.size) (vs := [.int .i64 0, .string ⟨#[]⟩, .string ⟨#[]⟩, .int .i64 0, .int .i64 0]) (t := 35) List.mem_cons_self
    have z0 : wz.cell? ⟨w.heap.size, 0, none⟩ = some (.int .i64 0) := by rw [cell_at hb]; rfl
    have zf0 : wz.frozen? ⟨w.heap.size, 0, none⟩ = false := free_at hb 0
    have z1 : wz.cell? ⟨w.heap.size, 1, none⟩ = some (.string ⟨#[]⟩) := by rw [cell_at hb]; rfl
    have zf1 : wz.frozen? ⟨w.heap.size, 1, none⟩ = false := free_at hb 1
    have z2 : wz.cell? ⟨w.heap.size, 2, none⟩ = some (.string ⟨#[]⟩) := by rw [cell_at hb]; rfl
    have zf2 : wz.frozen? ⟨w.heap.size, 2, none⟩ = false := free_at hb 2
    have z3 : wz.cell? ⟨w.heap.size, 3, none⟩ = some (.int .i64 0) := by rw [cell_at hb]; rfl
    have zf3 : wz.frozen? ⟨w.heap.size, 3, none⟩ = false := free_at hb 3
    have z4 : wz.cell? ⟨w.heap.size, 4, none⟩ = some (.int .i64 0) := by rw [cell_at hb]; rfl
    have zf4 : wz.frozen? ⟨w.heap.size, 4, none⟩ = false := free_at hb 4
    clear hb
    have A := hid ((((((A.out.setBlk 0 (.int .i64 0)).setBlk 1 (.string emp)).setBlk 2 (.string emp)).setBlk 3 (.int .i64 0)).setBlk 4 (.int .i64 0)))
    go_wp2
    refine bodyPost_ret (v := opV 0 emp emp 0 0) (res26 (b := w.heap.size) rfl A.out.1.2.1) rfl ?_
    refine ⟨by rw [gotV, if_neg her.out], rv11, ?_⟩
    exact ((A.out.tail).swap.tail).swap.tail

set_option maxHeartbeats 3200000 in
set_option maxRecDepth 1000000 in
theorem get4 {b : Nat} {D : Option Nat} {rv : Value} {r : Rst} {cs : List Comp} {w : World} (h : All (rdC b D rv r :: cs) w) (ht : ∀ w', All cs w' → Tab w') (hp : r.size ≤ 140737488355328) (hk : r.numV 8 = 4) :
    Calls Tryz.prog 12 #[.pointer (some ⟨b, 0, none⟩)] w fun e w' => e = .returned (gotV ((((r.num 8).txt 16).num 1099511627776).fail (chkA 4 (ByteArray.size ((r.num 8).txtV 16)) (ByteArray.size emp) (((r.num 8).txt 16).numV 1099511627776) 0)) 4 ((r.num 8).txtV 16) emp (((r.num 8).txt 16).numV 1099511627776) 0) ∧ ∃ rv', All (rdC b D rv' ((((r.num 8).txt 16).num 1099511627776).fail (chkA 4 (ByteArray.size ((r.num 8).txtV 16)) (ByteArray.size emp) (((r.num 8).txt 16).numV 1099511627776) 0)) :: cs) w' := by
  have A := hid (h.addBlk [.int .i64 0, .string ⟨#[]⟩, .string ⟨#[]⟩, .int .i64 0, .int .i64 0] 35).swap
  have HT := hid ht
  have HK := hid hk
  have P1 := hid (num_size r 8)
  clear h ht hk
  generalize hnm : ((r.num 8).txtV 16) = nm
  have Hnm := hid hnm
  clear hnm
  generalize hn : (((r.num 8).txt 16).numV 1099511627776) = n
  have Hn := hid hn
  clear hn
  generalize h5 : (((r.num 8).txt 16).num 1099511627776) = r5
  have H5 := hid h5
  clear h5
  generalize hck : chkA 4 (ByteArray.size nm) (ByteArray.size emp) n 0 = ck
  have Hck := hid hck
  clear hck
  generalize hRR : r5.fail ck = R
  have HRR := hid hRR
  clear hRR
  go_enter Tryz.func12, Tryz.ntmps12
  go_wp2_with fail
  refine (numRd A.out hp 8).mono ?_
  rw [HK.out]
  rintro e w1 ⟨rfl, rv1, A1⟩
  have A := hid A1
  clear A1 HK
  have TB := HT.out _ A.out.tail.tail
  have t0 : w1.cell? ⟨0, 32, none⟩ = some (.int .i64 1) := TB.cell 32 (by omega)
  have t1 : w1.cell? ⟨0, 33, none⟩ = some (.int .i64 16) := TB.cell 33 (by omega)
  have t2 : w1.cell? ⟨0, 34, none⟩ = some (.int .i64 0) := TB.cell 34 (by omega)
  have t3 : w1.cell? ⟨0, 35, none⟩ = some (.int .i64 0) := TB.cell 35 (by omega)
  have t4 : w1.cell? ⟨0, 36, none⟩ = some (.int .i64 0) := TB.cell 36 (by omega)
  have t5 : w1.cell? ⟨0, 37, none⟩ = some (.int .i64 1099511627776) := TB.cell 37 (by omega)
  have t6 : w1.cell? ⟨0, 38, none⟩ = some (.int .i64 0) := TB.cell 38 (by omega)
  have t7 : w1.cell? ⟨0, 39, none⟩ = some (.int .i64 0) := TB.cell 39 (by omega)
  have tlt := TB.lt
  have A2 := (A.out.addBlk [.int .i64 4, .string emp, .string emp, .int .i64 0, .int .i64 0] 35).addBlk [.int .i64 1, .int .i64 16, .int .i64 0, .int .i64 0, .int .i64 0, .int .i64 1099511627776, .int .i64 0, .int .i64 0] 103
  have hsz : (w1.alloc (.cells [.int .i64 4, .string emp, .string emp, .int .i64 0, .int .i64 0].toArray 35)).heap.size = w1.heap.size + 1 := by simp
  rw [hsz] at A2
  clear A TB hsz
  generalize hO : w1.heap.size = o at A2 tlt
  have A := hid (A2.perm (ds := rdC b D rv1 (r.num 8) :: blkC (o + 1) [.int .i64 1, .int .i64 16, .int .i64 0, .int .i64 0, .int .i64 0, .int .i64 1099511627776, .int .i64 0, .int .i64 0] 103 :: blkC o [.int .i64 4, .string emp, .string emp, .int .i64 0, .int .i64 0] 35 :: blkC w.heap.size [.int .i64 0, .string ⟨#[]⟩, .string ⟨#[]⟩, .int .i64 0, .int .i64 0] 35 :: cs) (List.perm_middle (l₁ := [blkC (o + 1) [.int .i64 1, .int .i64 16, .int .i64 0, .int .i64 0, .int .i64 0, .int .i64 1099511627776, .int .i64 0, .int .i64 0] 103, blkC o [.int .i64 4, .string emp, .string emp, .int .i64 0, .int .i64 0] 35])))
  clear A2
  go_wp2_with fail
  refine (has_any 1 16).mono ?_
  rintro e w2 ⟨rfl, Bh⟩
  rw [show hs 16 = true by decide +kernel]
  have A := hid (A.out.later Bh)
  clear Bh hO t0 t1 t2 t3 t4 t5 t6 t7 tlt
  have hb := A.out.blk (g := o + 1) (vs := [.int .i64 1, .int .i64 16, .int .i64 0, .int .i64 0, .int .i64 0, .int .i64 1099511627776, .int .i64 0, .int .i64 0]) (t := 103) mem2
  have q : w2.cell? ⟨o + 1, 1, none⟩ = some (.int .i64 16) := by rw [cell_at hb]; rfl
  clear hb
  go_wp2_with fail
  refine (textRd A.out (by have := P1.out; unfold Rst.size at *; omega) 16).mono ?_
  rw [Hnm.out]
  rintro e w3 ⟨rfl, rv3, A1⟩
  have P1 := hid (Nat.le_trans (txt_size (r.num 8) 16) P1.out)
  have A := hid (A1.perm (ds := blkC o [.int .i64 4, .string emp, .string emp, .int .i64 0, .int .i64 0] 35 :: rdC b D rv3 ((r.num 8).txt 16) :: blkC (o + 1) [.int .i64 1, .int .i64 16, .int .i64 0, .int .i64 0, .int .i64 0, .int .i64 1099511627776, .int .i64 0, .int .i64 0] 103 :: blkC w.heap.size [.int .i64 0, .string ⟨#[]⟩, .string ⟨#[]⟩, .int .i64 0, .int .i64 0] 35 :: cs) (List.perm_middle (l₁ := [rdC b D rv3 ((r.num 8).txt 16), blkC (o + 1) [.int .i64 1, .int .i64 16, .int .i64 0, .int .i64 0, .int .i64 0, .int .i64 1099511627776, .int .i64 0, .int .i64 0] 103])))
  clear A1 q
  have hb := A.out.blk (g := o) (vs := [.int .i64 4, .string emp, .string emp, .int .i64 0, .int .i64 0]) (t := 35) List.mem_cons_self
  have q : w3.cell? ⟨o, 1, none⟩ = some (.string emp) := by rw [cell_at hb]; rfl
  have qf : w3.frozen? ⟨o, 1, none⟩ = false := free_at hb 1
  clear hb
  have A := hid (show All (blkC o [.int .i64 4, .string nm, .string emp, .int .i64 0, .int .i64 0] 35 :: rdC b D rv3 ((r.num 8).txt 16) :: blkC (o + 1) [.int .i64 1, .int .i64 16, .int .i64 0, .int .i64 0, .int .i64 0, .int .i64 1099511627776, .int .i64 0, .int .i64 0] 103 :: blkC w.heap.size [.int .i64 0, .string ⟨#[]⟩, .string ⟨#[]⟩, .int .i64 0, .int .i64 0] 35 :: cs) (w3.setCell ⟨o, 1, none⟩ (.string nm)) from A.out.setBlk 1 (.string nm))
  have A := hid (A.out.perm (ds := rdC b D rv3 ((r.num 8).txt 16) :: blkC (o + 1) [.int .i64 1, .int .i64 16, .int .i64 0, .int .i64 0, .int .i64 0, .int .i64 1099511627776, .int .i64 0, .int .i64 0] 103 :: blkC o [.int .i64 4, .string nm, .string emp, .int .i64 0, .int .i64 0] 35 :: blkC w.heap.size [.int .i64 0, .string ⟨#[]⟩, .string ⟨#[]⟩, .int .i64 0, .int .i64 0] 35 :: cs) (List.perm_middle (l₁ := [rdC b D rv3 ((r.num 8).txt 16), blkC (o + 1) [.int .i64 1, .int .i64 16, .int .i64 0, .int .i64 0, .int .i64 0, .int .i64 1099511627776, .int .i64 0, .int .i64 0] 103])).symm)
  generalize hG : w3.setCell ⟨o, 1, none⟩ (.string nm) = w4 at A
  have hb := A.out.blk (g := o + 1) (vs := [.int .i64 1, .int .i64 16, .int .i64 0, .int .i64 0, .int .i64 0, .int .i64 1099511627776, .int .i64 0, .int .i64 0]) (t := 103) mem2
  have r2 : w4.cell? ⟨o + 1, 2, none⟩ = some (.int .i64 0) := by rw [cell_at hb]; rfl
  have r3 : w4.cell? ⟨o + 1, 3, none⟩ = some (.int .i64 0) := by rw [cell_at hb]; rfl
  clear hb
  go_wp2_with fail
  refine (has_any 0 0).mono ?_
  rintro e w5 ⟨rfl, Bh⟩
  rw [show hs 0 = false by decide +kernel]
  have A := hid (A.out.later Bh)
  clear Bh r2 r3
  have hb := A.out.blk (g := o + 1) (vs := [.int .i64 1, .int .i64 16, .int .i64 0, .int .i64 0, .int .i64 0, .int .i64 1099511627776, .int .i64 0, .int .i64 0]) (t := 103) mem2
  have r4 : w5.cell? ⟨o + 1, 4, none⟩ = some (.int .i64 0) := by rw [cell_at hb]; rfl
  have r5 : w5.cell? ⟨o + 1, 5, none⟩ = some (.int .i64 1099511627776) := by rw [cell_at hb]; rfl
  clear hb
  go_wp2_with fail
  refine (has_any 0 1099511627776).mono ?_
  rintro e w6 ⟨rfl, Bh⟩
  rw [show hs 1099511627776 = true by decide +kernel]
  have A := hid (A.out.later Bh)
  clear Bh r4 r5
  have hb := A.out.blk (g := o + 1) (vs := [.int .i64 1, .int .i64 16, .int .i64 0, .int .i64 0, .int .i64 0, .int .i64 1099511627776, .int .i64 0, .int .i64 0]) (t := 103) mem2
  have q : w6.cell? ⟨o + 1, 5, none⟩ = some (.int .i64 1099511627776) := by rw [cell_at hb]; rfl
  clear hb
  go_wp2_with fail
  refine (numRd A.out (by have := P1.out; unfold Rst.size at *; omega) 1099511627776).mono ?_
  rw [Hn.out]
  rintro e w7 ⟨rfl, rv7, A1⟩
  have P1 := hid (Nat.le_trans (num_size ((r.num 8).txt 16) 1099511627776) P1.out)
  have A := hid (A1.perm (ds := blkC o [.int .i64 4, .string nm, .string emp, .int .i64 0, .int .i64 0] 35 :: rdC b D rv7 (((r.num 8).txt 16).num 1099511627776) :: blkC (o + 1) [.int .i64 1, .int .i64 16, .int .i64 0, .int .i64 0, .int .i64 0, .int .i64 1099511627776, .int .i64 0, .int .i64 0] 103 :: blkC w.heap.size [.int .i64 0, .string ⟨#[]⟩, .string ⟨#[]⟩, .int .i64 0, .int .i64 0] 35 :: cs) (List.perm_middle (l₁ := [rdC b D rv7 (((r.num 8).txt 16).num 1099511627776), blkC (o + 1) [.int .i64 1, .int .i64 16, .int .i64 0, .int .i64 0, .int .i64 0, .int .i64 1099511627776, .int .i64 0, .int .i64 0] 103])))
  clear A1 q
  have hb := A.out.blk (g := o) (vs := [.int .i64 4, .string nm, .string emp, .int .i64 0, .int .i64 0]) (t := 35) List.mem_cons_self
  have q : w7.cell? ⟨o, 3, none⟩ = some (.int .i64 0) := by rw [cell_at hb]; rfl
  have qf : w7.frozen? ⟨o, 3, none⟩ = false := free_at hb 3
  clear hb
  have A := hid (show All (blkC o [.int .i64 4, .string nm, .string emp, .int .i64 n, .int .i64 0] 35 :: rdC b D rv7 (((r.num 8).txt 16).num 1099511627776) :: blkC (o + 1) [.int .i64 1, .int .i64 16, .int .i64 0, .int .i64 0, .int .i64 0, .int .i64 1099511627776, .int .i64 0, .int .i64 0] 103 :: blkC w.heap.size [.int .i64 0, .string ⟨#[]⟩, .string ⟨#[]⟩, .int .i64 0, .int .i64 0] 35 :: cs) (w7.setCell ⟨o, 3, none⟩ (.int .i64 n)) from A.out.setBlk 3 (.int .i64 n))
  have A := hid (A.out.perm (ds := rdC b D rv7 (((r.num 8).txt 16).num 1099511627776) :: blkC (o + 1) [.int .i64 1, .int .i64 16, .int .i64 0, .int .i64 0, .int .i64 0, .int .i64 1099511627776, .int .i64 0, .int .i64 0] 103 :: blkC o [.int .i64 4, .string nm, .string emp, .int .i64 n, .int .i64 0] 35 :: blkC w.heap.size [.int .i64 0, .string ⟨#[]⟩, .string ⟨#[]⟩, .int .i64 0, .int .i64 0] 35 :: cs) (List.perm_middle (l₁ := [rdC b D rv7 (((r.num 8).txt 16).num 1099511627776), blkC (o + 1) [.int .i64 1, .int .i64 16, .int .i64 0, .int .i64 0, .int .i64 0, .int .i64 1099511627776, .int .i64 0, .int .i64 0] 103])).symm)
  generalize hG : w7.setCell ⟨o, 3, none⟩ (.int .i64 n) = w8 at A
  have hb := A.out.blk (g := o + 1) (vs := [.int .i64 1, .int .i64 16, .int .i64 0, .int .i64 0, .int .i64 0, .int .i64 1099511627776, .int .i64 0, .int .i64 0]) (t := 103) mem2
  have r6 : w8.cell? ⟨o + 1, 6, none⟩ = some (.int .i64 0) := by rw [cell_at hb]; rfl
  have r7 : w8.cell? ⟨o + 1, 7, none⟩ = some (.int .i64 0) := by rw [cell_at hb]; rfl
  clear hb
  go_wp2_with fail
  refine (has_any 0 0).mono ?_
  rintro e w9 ⟨rfl, Bh⟩
  rw [show hs 0 = false by decide +kernel]
  have A := hid (A.out.later Bh)
  clear Bh r6 r7
  rw [H5.out] at A
  clear H5
  have hb := A.out.blk (g := o) (vs := [.int .i64 4, .string nm, .string emp, .int .i64 n, .int .i64 0]) (t := 35) mem3
  have o0 : w9.cell? ⟨o, 0, none⟩ = some (.int .i64 4) := by rw [cell_at hb]; rfl
  have o1 : w9.cell? ⟨o, 1, none⟩ = some (.string nm) := by rw [cell_at hb]; rfl
  have o2 : w9.cell? ⟨o, 2, none⟩ = some (.string emp) := by rw [cell_at hb]; rfl
  have o3 : w9.cell? ⟨o, 3, none⟩ = some (.int .i64 n) := by rw [cell_at hb]; rfl
  have o4 : w9.cell? ⟨o, 4, none⟩ = some (.int .i64 0) := by rw [cell_at hb]; rfl
  clear hb
  go_wp2_with fail
  refine (check_any (HT.out _ A.out.tail.tail.tail.tail) 4 nm emp n 0).mono ?_
  rw [Hck.out]
  rintro e w10 ⟨rfl, Bh⟩
  have A := hid (A.out.later Bh)
  clear Bh o0 o1 o2 o3 o4
  go_wp2_with fail
  refine (failRd A.out ck).mono ?_
  rw [HRR.out]
  rintro e w11 ⟨rfl, rv11, A1⟩
  have A := hid A1
  clear A1
  go_wp2_with fail
  refine (wholeRd A.out).mono ?_
  rintro e wz ⟨rfl, A1⟩
  have A := hid (A1.perm (ds := blkC w.heap.size [.int .i64 0, .string ⟨#[]⟩, .string ⟨#[]⟩, .int .i64 0, .int .i64 0] 35 :: rdC b D rv11 R :: blkC (o + 1) [.int .i64 1, .int .i64 16, .int .i64 0, .int .i64 0, .int .i64 0, .int .i64 1099511627776, .int .i64 0, .int .i64 0] 103 :: blkC o [.int .i64 4, .string nm, .string emp, .int .i64 n, .int .i64 0] 35 :: cs) (List.perm_middle (l₁ := [rdC b D rv11 R, blkC (o + 1) [.int .i64 1, .int .i64 16, .int .i64 0, .int .i64 0, .int .i64 0, .int .i64 1099511627776, .int .i64 0, .int .i64 0] 103, blkC o [.int .i64 4, .string nm, .string emp, .int .i64 n, .int .i64 0] 35])))
  clear A1 HT HRR Hck P1
  by_cases her : R.err = 0
  · have e1 : (R.err == 0) = true := by rw [beq_iff_eq]; exact her
    rw [e1]
    have her := hid her
    clear e1
    have hb := A.out.blk (g := w.heap.size) (vs := [.int .i64 0, .string ⟨#[]⟩, .string ⟨#[]⟩, .int .i64 0, .int .i64 0]) (t := 35) List.mem_cons_self
    have z0 : wz.cell? ⟨w.heap.size, 0, none⟩ = some (.int .i64 0) := by rw [cell_at hb]; rfl
    have zf0 : wz.frozen? ⟨w.heap.size, 0, none⟩ = false := free_at hb 0
    have z1 : wz.cell? ⟨w.heap.size, 1, none⟩ = some (.string ⟨#[]⟩) := by rw [cell_at hb]; rfl
    have zf1 : wz.frozen? ⟨w.heap.size, 1, none⟩ = false := free_at hb 1
    have z2 : wz.cell? ⟨w.heap.size, 2, none⟩ = some (.string ⟨#[]⟩) := by rw [cell_at hb]; rfl
    have zf2 : wz.frozen? ⟨w.heap.size, 2, none⟩ = false := free_at hb 2
    have z3 : wz.cell? ⟨w.heap.size, 3, none⟩ = some (.int .i64 0) := by rw [cell_at hb]; rfl
    have zf3 : wz.frozen? ⟨w.heap.size, 3, none⟩ = false := free_at hb 3
    have z4 : wz.cell? ⟨w.heap.size, 4, none⟩ = some (.int .i64 0) := by rw [cell_at hb]; rfl
    have zf4 : wz.frozen? ⟨w.heap.size, 4, none⟩ = false := free_at hb 4
    clear hb
    have hb := A.out.blk (g := o) (vs := [.int .i64 4, .string nm, .string emp, .int .i64 n, .int .i64 0]) (t := 35) mem4
    have o0 : wz.cell? ⟨o, 0, none⟩ = some (.int .i64 4) := by rw [cell_at hb]; rfl
    have o1 : wz.cell? ⟨o, 1, none⟩ = some (.string nm) := by rw [cell_at hb]; rfl
    have o2 : wz.cell? ⟨o, 2, none⟩ = some (.string emp) := by rw [cell_at hb]; rfl
    have o3 : wz.cell? ⟨o, 3, none⟩ = some (.int .i64 n) := by rw [cell_at hb]; rfl
    have o4 : wz.cell? ⟨o, 4, none⟩ = some (.int .i64 0) := by rw [cell_at hb]; rfl
    clear hb
    have A := hid ((((((A.out.setBlk 0 (.int .i64 4)).setBlk 1 (.string nm)).setBlk 2 (.string emp)).setBlk 3 (.int .i64 n)).setBlk 4 (.int .i64 0)))
    go_wp2
    refine bodyPost_ret (v := opV 4 nm emp n 0) (res26 (b := w.heap.size) rfl A.out.1.2.1) rfl ?_
    refine ⟨by rw [gotV, if_pos her.out], rv11, ?_⟩
    exact ((A.out.tail).swap.tail).swap.tail
  · have e1 : (R.err == 0) = false := by rw [beq_eq_false_iff_ne]; exact her
    rw [e1]
    have her := hid her
    clear e1
    have hb := A.out.blk (g := w.heap.size) (vs := [.int .i64 0, .string ⟨#[]⟩, .string ⟨#[]⟩, .int .i64 0, .int .i64 0]) (t := 35) List.mem_cons_self
    have z0 : wz.cell? ⟨w.heap.size, 0, none⟩ = some (.int .i64 0) := by rw [cell_at hb]; rfl
    have zf0 : wz.frozen? ⟨w.heap.size, 0, none⟩ = false := free_at hb 0
    have z1 : wz.cell? ⟨w.heap.size, 1, none⟩ = some (.string ⟨#[]⟩) := by rw [cell_at hb]; rfl
    have zf1 : wz.frozen? ⟨w.heap.size, 1, none⟩ = false := free_at hb 1
    have z2 : wz.cell? ⟨w.heap.size, 2, none⟩ = some (.string ⟨#[]⟩) := by rw [cell_at hb]; rfl
    have zf2 : wz.frozen? ⟨w.heap.size, 2, none⟩ = false := free_at hb 2
    have z3 : wz.cell? ⟨w.heap.size, 3, none⟩ = some (.int .i64 0) := by rw [cell_at hb]; rfl
    have zf3 : wz.frozen? ⟨w.heap.size, 3, none⟩ = false := free_at hb 3
    have z4 : wz.cell? ⟨w.heap.size, 4, none⟩ = some (.int .i64 0) := by rw [cell_at hb]; rfl
    have zf4 : wz.frozen? ⟨w.heap.size, 4, none⟩ = false := free_at hb 4
    clear hb
    have A := hid ((((((A.out.setBlk 0 (.int .i64 0)).setBlk 1 (.string emp)).setBlk 2 (.string emp)).setBlk 3 (.int .i64 0)).setBlk 4 (.int .i64 0)))
    go_wp2
    refine bodyPost_ret (v := opV 0 emp emp 0 0) (res26 (b := w.heap.size) rfl A.out.1.2.1) rfl ?_
    refine ⟨by rw [gotV, if_neg her.out], rv11, ?_⟩
    exact ((A.out.tail).swap.tail).swap.tail

set_option maxHeartbeats 3200000 in
set_option maxRecDepth 1000000 in
theorem get5 {b : Nat} {D : Option Nat} {rv : Value} {r : Rst} {cs : List Comp} {w : World} (h : All (rdC b D rv r :: cs) w) (ht : ∀ w', All cs w' → Tab w') (hp : r.size ≤ 140737488355328) (hk : r.numV 8 = 5) :
    Calls Tryz.prog 12 #[.pointer (some ⟨b, 0, none⟩)] w fun e w' => e = .returned (gotV ((((r.num 8).txt 16).txt 16).fail (chkA 5 (ByteArray.size ((r.num 8).txtV 16)) (ByteArray.size (((r.num 8).txt 16).txtV 16)) 0 0)) 5 ((r.num 8).txtV 16) (((r.num 8).txt 16).txtV 16) 0 0) ∧ ∃ rv', All (rdC b D rv' ((((r.num 8).txt 16).txt 16).fail (chkA 5 (ByteArray.size ((r.num 8).txtV 16)) (ByteArray.size (((r.num 8).txt 16).txtV 16)) 0 0)) :: cs) w' := by
  have A := hid (h.addBlk [.int .i64 0, .string ⟨#[]⟩, .string ⟨#[]⟩, .int .i64 0, .int .i64 0] 35).swap
  have HT := hid ht
  have HK := hid hk
  have P1 := hid (num_size r 8)
  clear h ht hk
  generalize hnm : ((r.num 8).txtV 16) = nm
  have Hnm := hid hnm
  clear hnm
  generalize htx : (((r.num 8).txt 16).txtV 16) = tx
  have Htx := hid htx
  clear htx
  generalize h5 : (((r.num 8).txt 16).txt 16) = r5
  have H5 := hid h5
  clear h5
  generalize hck : chkA 5 (ByteArray.size nm) (ByteArray.size tx) 0 0 = ck
  have Hck := hid hck
  clear hck
  generalize hRR : r5.fail ck = R
  have HRR := hid hRR
  clear hRR
  go_enter Tryz.func12, Tryz.ntmps12
  go_wp2_with fail
  refine (numRd A.out hp 8).mono ?_
  rw [HK.out]
  rintro e w1 ⟨rfl, rv1, A1⟩
  have A := hid A1
  clear A1 HK
  have TB := HT.out _ A.out.tail.tail
  have t0 : w1.cell? ⟨0, 40, none⟩ = some (.int .i64 1) := TB.cell 40 (by omega)
  have t1 : w1.cell? ⟨0, 41, none⟩ = some (.int .i64 16) := TB.cell 41 (by omega)
  have t2 : w1.cell? ⟨0, 42, none⟩ = some (.int .i64 1) := TB.cell 42 (by omega)
  have t3 : w1.cell? ⟨0, 43, none⟩ = some (.int .i64 16) := TB.cell 43 (by omega)
  have t4 : w1.cell? ⟨0, 44, none⟩ = some (.int .i64 0) := TB.cell 44 (by omega)
  have t5 : w1.cell? ⟨0, 45, none⟩ = some (.int .i64 0) := TB.cell 45 (by omega)
  have t6 : w1.cell? ⟨0, 46, none⟩ = some (.int .i64 0) := TB.cell 46 (by omega)
  have t7 : w1.cell? ⟨0, 47, none⟩ = some (.int .i64 0) := TB.cell 47 (by omega)
  have tlt := TB.lt
  have A2 := (A.out.addBlk [.int .i64 5, .string emp, .string emp, .int .i64 0, .int .i64 0] 35).addBlk [.int .i64 1, .int .i64 16, .int .i64 1, .int .i64 16, .int .i64 0, .int .i64 0, .int .i64 0, .int .i64 0] 103
  have hsz : (w1.alloc (.cells [.int .i64 5, .string emp, .string emp, .int .i64 0, .int .i64 0].toArray 35)).heap.size = w1.heap.size + 1 := by simp
  rw [hsz] at A2
  clear A TB hsz
  generalize hO : w1.heap.size = o at A2 tlt
  have A := hid (A2.perm (ds := rdC b D rv1 (r.num 8) :: blkC (o + 1) [.int .i64 1, .int .i64 16, .int .i64 1, .int .i64 16, .int .i64 0, .int .i64 0, .int .i64 0, .int .i64 0] 103 :: blkC o [.int .i64 5, .string emp, .string emp, .int .i64 0, .int .i64 0] 35 :: blkC w.heap.size [.int .i64 0, .string ⟨#[]⟩, .string ⟨#[]⟩, .int .i64 0, .int .i64 0] 35 :: cs) (List.perm_middle (l₁ := [blkC (o + 1) [.int .i64 1, .int .i64 16, .int .i64 1, .int .i64 16, .int .i64 0, .int .i64 0, .int .i64 0, .int .i64 0] 103, blkC o [.int .i64 5, .string emp, .string emp, .int .i64 0, .int .i64 0] 35])))
  clear A2
  go_wp2_with fail
  refine (has_any 1 16).mono ?_
  rintro e w2 ⟨rfl, Bh⟩
  rw [show hs 16 = true by decide +kernel]
  have A := hid (A.out.later Bh)
  clear Bh hO t0 t1 t2 t3 t4 t5 t6 t7 tlt
  have hb := A.out.blk (g := o + 1) (vs := [.int .i64 1, .int .i64 16, .int .i64 1, .int .i64 16, .int .i64 0, .int .i64 0, .int .i64 0, .int .i64 0]) (t := 103) mem2
  have q : w2.cell? ⟨o + 1, 1, none⟩ = some (.int .i64 16) := by rw [cell_at hb]; rfl
  clear hb
  go_wp2_with fail
  refine (textRd A.out (by have := P1.out; unfold Rst.size at *; omega) 16).mono ?_
  rw [Hnm.out]
  rintro e w3 ⟨rfl, rv3, A1⟩
  have P1 := hid (Nat.le_trans (txt_size (r.num 8) 16) P1.out)
  have A := hid (A1.perm (ds := blkC o [.int .i64 5, .string emp, .string emp, .int .i64 0, .int .i64 0] 35 :: rdC b D rv3 ((r.num 8).txt 16) :: blkC (o + 1) [.int .i64 1, .int .i64 16, .int .i64 1, .int .i64 16, .int .i64 0, .int .i64 0, .int .i64 0, .int .i64 0] 103 :: blkC w.heap.size [.int .i64 0, .string ⟨#[]⟩, .string ⟨#[]⟩, .int .i64 0, .int .i64 0] 35 :: cs) (List.perm_middle (l₁ := [rdC b D rv3 ((r.num 8).txt 16), blkC (o + 1) [.int .i64 1, .int .i64 16, .int .i64 1, .int .i64 16, .int .i64 0, .int .i64 0, .int .i64 0, .int .i64 0] 103])))
  clear A1 q
  have hb := A.out.blk (g := o) (vs := [.int .i64 5, .string emp, .string emp, .int .i64 0, .int .i64 0]) (t := 35) List.mem_cons_self
  have q : w3.cell? ⟨o, 1, none⟩ = some (.string emp) := by rw [cell_at hb]; rfl
  have qf : w3.frozen? ⟨o, 1, none⟩ = false := free_at hb 1
  clear hb
  have A := hid (show All (blkC o [.int .i64 5, .string nm, .string emp, .int .i64 0, .int .i64 0] 35 :: rdC b D rv3 ((r.num 8).txt 16) :: blkC (o + 1) [.int .i64 1, .int .i64 16, .int .i64 1, .int .i64 16, .int .i64 0, .int .i64 0, .int .i64 0, .int .i64 0] 103 :: blkC w.heap.size [.int .i64 0, .string ⟨#[]⟩, .string ⟨#[]⟩, .int .i64 0, .int .i64 0] 35 :: cs) (w3.setCell ⟨o, 1, none⟩ (.string nm)) from A.out.setBlk 1 (.string nm))
  have A := hid (A.out.perm (ds := rdC b D rv3 ((r.num 8).txt 16) :: blkC (o + 1) [.int .i64 1, .int .i64 16, .int .i64 1, .int .i64 16, .int .i64 0, .int .i64 0, .int .i64 0, .int .i64 0] 103 :: blkC o [.int .i64 5, .string nm, .string emp, .int .i64 0, .int .i64 0] 35 :: blkC w.heap.size [.int .i64 0, .string ⟨#[]⟩, .string ⟨#[]⟩, .int .i64 0, .int .i64 0] 35 :: cs) (List.perm_middle (l₁ := [rdC b D rv3 ((r.num 8).txt 16), blkC (o + 1) [.int .i64 1, .int .i64 16, .int .i64 1, .int .i64 16, .int .i64 0, .int .i64 0, .int .i64 0, .int .i64 0] 103])).symm)
  generalize hG : w3.setCell ⟨o, 1, none⟩ (.string nm) = w4 at A
  have hb := A.out.blk (g := o + 1) (vs := [.int .i64 1, .int .i64 16, .int .i64 1, .int .i64 16, .int .i64 0, .int .i64 0, .int .i64 0, .int .i64 0]) (t := 103) mem2
  have r2 : w4.cell? ⟨o + 1, 2, none⟩ = some (.int .i64 1) := by rw [cell_at hb]; rfl
  have r3 : w4.cell? ⟨o + 1, 3, none⟩ = some (.int .i64 16) := by rw [cell_at hb]; rfl
  clear hb
  go_wp2_with fail
  refine (has_any 1 16).mono ?_
  rintro e w5 ⟨rfl, Bh⟩
  rw [show hs 16 = true by decide +kernel]
  have A := hid (A.out.later Bh)
  clear Bh r2 r3
  have hb := A.out.blk (g := o + 1) (vs := [.int .i64 1, .int .i64 16, .int .i64 1, .int .i64 16, .int .i64 0, .int .i64 0, .int .i64 0, .int .i64 0]) (t := 103) mem2
  have q : w5.cell? ⟨o + 1, 3, none⟩ = some (.int .i64 16) := by rw [cell_at hb]; rfl
  clear hb
  go_wp2_with fail
  refine (textRd A.out (by have := P1.out; unfold Rst.size at *; omega) 16).mono ?_
  rw [Htx.out]
  rintro e w6 ⟨rfl, rv6, A1⟩
  have P1 := hid (Nat.le_trans (txt_size ((r.num 8).txt 16) 16) P1.out)
  have A := hid (A1.perm (ds := blkC o [.int .i64 5, .string nm, .string emp, .int .i64 0, .int .i64 0] 35 :: rdC b D rv6 (((r.num 8).txt 16).txt 16) :: blkC (o + 1) [.int .i64 1, .int .i64 16, .int .i64 1, .int .i64 16, .int .i64 0, .int .i64 0, .int .i64 0, .int .i64 0] 103 :: blkC w.heap.size [.int .i64 0, .string ⟨#[]⟩, .string ⟨#[]⟩, .int .i64 0, .int .i64 0] 35 :: cs) (List.perm_middle (l₁ := [rdC b D rv6 (((r.num 8).txt 16).txt 16), blkC (o + 1) [.int .i64 1, .int .i64 16, .int .i64 1, .int .i64 16, .int .i64 0, .int .i64 0, .int .i64 0, .int .i64 0] 103])))
  clear A1 q
  have hb := A.out.blk (g := o) (vs := [.int .i64 5, .string nm, .string emp, .int .i64 0, .int .i64 0]) (t := 35) List.mem_cons_self
  have q : w6.cell? ⟨o, 2, none⟩ = some (.string emp) := by rw [cell_at hb]; rfl
  have qf : w6.frozen? ⟨o, 2, none⟩ = false := free_at hb 2
  clear hb
  have A := hid (show All (blkC o [.int .i64 5, .string nm, .string tx, .int .i64 0, .int .i64 0] 35 :: rdC b D rv6 (((r.num 8).txt 16).txt 16) :: blkC (o + 1) [.int .i64 1, .int .i64 16, .int .i64 1, .int .i64 16, .int .i64 0, .int .i64 0, .int .i64 0, .int .i64 0] 103 :: blkC w.heap.size [.int .i64 0, .string ⟨#[]⟩, .string ⟨#[]⟩, .int .i64 0, .int .i64 0] 35 :: cs) (w6.setCell ⟨o, 2, none⟩ (.string tx)) from A.out.setBlk 2 (.string tx))
  have A := hid (A.out.perm (ds := rdC b D rv6 (((r.num 8).txt 16).txt 16) :: blkC (o + 1) [.int .i64 1, .int .i64 16, .int .i64 1, .int .i64 16, .int .i64 0, .int .i64 0, .int .i64 0, .int .i64 0] 103 :: blkC o [.int .i64 5, .string nm, .string tx, .int .i64 0, .int .i64 0] 35 :: blkC w.heap.size [.int .i64 0, .string ⟨#[]⟩, .string ⟨#[]⟩, .int .i64 0, .int .i64 0] 35 :: cs) (List.perm_middle (l₁ := [rdC b D rv6 (((r.num 8).txt 16).txt 16), blkC (o + 1) [.int .i64 1, .int .i64 16, .int .i64 1, .int .i64 16, .int .i64 0, .int .i64 0, .int .i64 0, .int .i64 0] 103])).symm)
  generalize hG : w6.setCell ⟨o, 2, none⟩ (.string tx) = w7 at A
  have hb := A.out.blk (g := o + 1) (vs := [.int .i64 1, .int .i64 16, .int .i64 1, .int .i64 16, .int .i64 0, .int .i64 0, .int .i64 0, .int .i64 0]) (t := 103) mem2
  have r4 : w7.cell? ⟨o + 1, 4, none⟩ = some (.int .i64 0) := by rw [cell_at hb]; rfl
  have r5 : w7.cell? ⟨o + 1, 5, none⟩ = some (.int .i64 0) := by rw [cell_at hb]; rfl
  clear hb
  go_wp2_with fail
  refine (has_any 0 0).mono ?_
  rintro e w8 ⟨rfl, Bh⟩
  rw [show hs 0 = false by decide +kernel]
  have A := hid (A.out.later Bh)
  clear Bh r4 r5
  have hb := A.out.blk (g := o + 1) (vs := [.int .i64 1, .int .i64 16, .int .i64 1, .int .i64 16, .int .i64 0, .int .i64 0, .int .i64 0, .int .i64 0]) (t := 103) mem2
  have r6 : w8.cell? ⟨o + 1, 6, none⟩ = some (.int .i64 0) := by rw [cell_at hb]; rfl
  have r7 : w8.cell? ⟨o + 1, 7, none⟩ = some (.int .i64 0) := by rw [cell_at hb]; rfl
  clear hb
  go_wp2_with fail
  refine (has_any 0 0).mono ?_
  rintro e w9 ⟨rfl, Bh⟩
  rw [show hs 0 = false by decide +kernel]
  have A := hid (A.out.later Bh)
  clear Bh r6 r7
  rw [H5.out] at A
  clear H5
  have hb := A.out.blk (g := o) (vs := [.int .i64 5, .string nm, .string tx, .int .i64 0, .int .i64 0]) (t := 35) mem3
  have o0 : w9.cell? ⟨o, 0, none⟩ = some (.int .i64 5) := by rw [cell_at hb]; rfl
  have o1 : w9.cell? ⟨o, 1, none⟩ = some (.string nm) := by rw [cell_at hb]; rfl
  have o2 : w9.cell? ⟨o, 2, none⟩ = some (.string tx) := by rw [cell_at hb]; rfl
  have o3 : w9.cell? ⟨o, 3, none⟩ = some (.int .i64 0) := by rw [cell_at hb]; rfl
  have o4 : w9.cell? ⟨o, 4, none⟩ = some (.int .i64 0) := by rw [cell_at hb]; rfl
  clear hb
  go_wp2_with fail
  refine (check_any (HT.out _ A.out.tail.tail.tail.tail) 5 nm tx 0 0).mono ?_
  rw [Hck.out]
  rintro e w10 ⟨rfl, Bh⟩
  have A := hid (A.out.later Bh)
  clear Bh o0 o1 o2 o3 o4
  go_wp2_with fail
  refine (failRd A.out ck).mono ?_
  rw [HRR.out]
  rintro e w11 ⟨rfl, rv11, A1⟩
  have A := hid A1
  clear A1
  go_wp2_with fail
  refine (wholeRd A.out).mono ?_
  rintro e wz ⟨rfl, A1⟩
  have A := hid (A1.perm (ds := blkC w.heap.size [.int .i64 0, .string ⟨#[]⟩, .string ⟨#[]⟩, .int .i64 0, .int .i64 0] 35 :: rdC b D rv11 R :: blkC (o + 1) [.int .i64 1, .int .i64 16, .int .i64 1, .int .i64 16, .int .i64 0, .int .i64 0, .int .i64 0, .int .i64 0] 103 :: blkC o [.int .i64 5, .string nm, .string tx, .int .i64 0, .int .i64 0] 35 :: cs) (List.perm_middle (l₁ := [rdC b D rv11 R, blkC (o + 1) [.int .i64 1, .int .i64 16, .int .i64 1, .int .i64 16, .int .i64 0, .int .i64 0, .int .i64 0, .int .i64 0] 103, blkC o [.int .i64 5, .string nm, .string tx, .int .i64 0, .int .i64 0] 35])))
  clear A1 HT HRR Hck P1
  by_cases her : R.err = 0
  · have e1 : (R.err == 0) = true := by rw [beq_iff_eq]; exact her
    rw [e1]
    have her := hid her
    clear e1
    have hb := A.out.blk (g := w.heap.size) (vs := [.int .i64 0, .string ⟨#[]⟩, .string ⟨#[]⟩, .int .i64 0, .int .i64 0]) (t := 35) List.mem_cons_self
    have z0 : wz.cell? ⟨w.heap.size, 0, none⟩ = some (.int .i64 0) := by rw [cell_at hb]; rfl
    have zf0 : wz.frozen? ⟨w.heap.size, 0, none⟩ = false := free_at hb 0
    have z1 : wz.cell? ⟨w.heap.size, 1, none⟩ = some (.string ⟨#[]⟩) := by rw [cell_at hb]; rfl
    have zf1 : wz.frozen? ⟨w.heap.size, 1, none⟩ = false := free_at hb 1
    have z2 : wz.cell? ⟨w.heap.size, 2, none⟩ = some (.string ⟨#[]⟩) := by rw [cell_at hb]; rfl
    have zf2 : wz.frozen? ⟨w.heap.size, 2, none⟩ = false := free_at hb 2
    have z3 : wz.cell? ⟨w.heap.size, 3, none⟩ = some (.int .i64 0) := by rw [cell_at hb]; rfl
    have zf3 : wz.frozen? ⟨w.heap.size, 3, none⟩ = false := free_at hb 3
    have z4 : wz.cell? ⟨w.heap.size, 4, none⟩ = some (.int .i64 0) := by rw [cell_at hb]; rfl
    have zf4 : wz.frozen? ⟨w.heap.size, 4, none⟩ = false := free_at hb 4
    clear hb
    have hb := A.out.blk (g := o) (vs := [.int .i64 5, .string nm, .string tx, .int .i64 0, .int .i64 0]) (t := 35) mem4
    have o0 : wz.cell? ⟨o, 0, none⟩ = some (.int .i64 5) := by rw [cell_at hb]; rfl
    have o1 : wz.cell? ⟨o, 1, none⟩ = some (.string nm) := by rw [cell_at hb]; rfl
    have o2 : wz.cell? ⟨o, 2, none⟩ = some (.string tx) := by rw [cell_at hb]; rfl
    have o3 : wz.cell? ⟨o, 3, none⟩ = some (.int .i64 0) := by rw [cell_at hb]; rfl
    have o4 : wz.cell? ⟨o, 4, none⟩ = some (.int .i64 0) := by rw [cell_at hb]; rfl
    clear hb
    have A := hid ((((((A.out.setBlk 0 (.int .i64 5)).setBlk 1 (.string nm)).setBlk 2 (.string tx)).setBlk 3 (.int .i64 0)).setBlk 4 (.int .i64 0)))
    go_wp2
    refine bodyPost_ret (v := opV 5 nm tx 0 0) (res26 (b := w.heap.size) rfl A.out.1.2.1) rfl ?_
    refine ⟨by rw [gotV, if_pos her.out], rv11, ?_⟩
    exact ((A.out.tail).swap.tail).swap.tail
  · have e1 : (R.err == 0) = false := by rw [beq_eq_false_iff_ne]; exact her
    rw [e1]
    have her := hid her
    clear e1
    have hb := A.out.blk (g := w.heap.size) (vs := [.int .i64 0, .string ⟨#[]⟩, .string ⟨#[]⟩, .int .i64 0, .int .i64 0]) (t := 35) List.mem_cons_self
    have z0 : wz.cell? ⟨w.heap.size, 0, none⟩ = some (.int .i64 0) := by rw [cell_at hb]; rfl
    have zf0 : wz.frozen? ⟨w.heap.size, 0, none⟩ = false := free_at hb 0
    have z1 : wz.cell? ⟨w.heap.size, 1, none⟩ = some (.string ⟨#[]⟩) := by rw [cell_at hb]; rfl
    have zf1 : wz.frozen? ⟨w.heap.size, 1, none⟩ = false := free_at hb 1
    have z2 : wz.cell? ⟨w.heap.size, 2, none⟩ = some (.string ⟨#[]⟩) := by rw [cell_at hb]; rfl
    have zf2 : wz.frozen? ⟨w.heap.size, 2, none⟩ = false := free_at hb 2
    have z3 : wz.cell? ⟨w.heap.size, 3, none⟩ = some (.int .i64 0) := by rw [cell_at hb]; rfl
    have zf3 : wz.frozen? ⟨w.heap.size, 3, none⟩ = false := free_at hb 3
    have z4 : wz.cell? ⟨w.heap.size, 4, none⟩ = some (.int .i64 0) := by rw [cell_at hb]; rfl
    have zf4 : wz.frozen? ⟨w.heap.size, 4, none⟩ = false := free_at hb 4
    clear hb
    have A := hid ((((((A.out.setBlk 0 (.int .i64 0)).setBlk 1 (.string emp)).setBlk 2 (.string emp)).setBlk 3 (.int .i64 0)).setBlk 4 (.int .i64 0)))
    go_wp2
    refine bodyPost_ret (v := opV 0 emp emp 0 0) (res26 (b := w.heap.size) rfl A.out.1.2.1) rfl ?_
    refine ⟨by rw [gotV, if_neg her.out], rv11, ?_⟩
    exact ((A.out.tail).swap.tail).swap.tail

set_option maxHeartbeats 3200000 in
set_option maxRecDepth 1000000 in
theorem get6 {b : Nat} {D : Option Nat} {rv : Value} {r : Rst} {cs : List Comp} {w : World} (h : All (rdC b D rv r :: cs) w) (ht : ∀ w', All cs w' → Tab w') (hp : r.size ≤ 140737488355328) (hk : r.numV 8 = 6) :
    Calls Tryz.prog 12 #[.pointer (some ⟨b, 0, none⟩)] w fun e w' => e = .returned (gotV (((((r.num 8).txt 16).num 1099511627776).num 8).fail (chkA 6 (ByteArray.size ((r.num 8).txtV 16)) (ByteArray.size emp) (((r.num 8).txt 16).numV 1099511627776) ((((r.num 8).txt 16).num 1099511627776).numV 8))) 6 ((r.num 8).txtV 16) emp (((r.num 8).txt 16).numV 1099511627776) ((((r.num 8).txt 16).num 1099511627776).numV 8)) ∧ ∃ rv', All (rdC b D rv' (((((r.num 8).txt 16).num 1099511627776).num 8).fail (chkA 6 (ByteArray.size ((r.num 8).txtV 16)) (ByteArray.size emp) (((r.num 8).txt 16).numV 1099511627776) ((((r.num 8).txt 16).num 1099511627776).numV 8))) :: cs) w' := by
  have A := hid (h.addBlk [.int .i64 0, .string ⟨#[]⟩, .string ⟨#[]⟩, .int .i64 0, .int .i64 0] 35).swap
  have HT := hid ht
  have HK := hid hk
  have P1 := hid (num_size r 8)
  clear h ht hk
  generalize hnm : ((r.num 8).txtV 16) = nm
  have Hnm := hid hnm
  clear hnm
  generalize hn : (((r.num 8).txt 16).numV 1099511627776) = n
  have Hn := hid hn
  clear hn
  generalize hm : ((((r.num 8).txt 16).num 1099511627776).numV 8) = m
  have Hm := hid hm
  clear hm
  generalize h5 : ((((r.num 8).txt 16).num 1099511627776).num 8) = r5
  have H5 := hid h5
  clear h5
  generalize hck : chkA 6 (ByteArray.size nm) (ByteArray.size emp) n m = ck
  have Hck := hid hck
  clear hck
  generalize hRR : r5.fail ck = R
  have HRR := hid hRR
  clear hRR
  go_enter Tryz.func12, Tryz.ntmps12
  go_wp2_with fail
  refine (numRd A.out hp 8).mono ?_
  rw [HK.out]
  rintro e w1 ⟨rfl, rv1, A1⟩
  have A := hid A1
  clear A1 HK
  have TB := HT.out _ A.out.tail.tail
  have t0 : w1.cell? ⟨0, 48, none⟩ = some (.int .i64 1) := TB.cell 48 (by omega)
  have t1 : w1.cell? ⟨0, 49, none⟩ = some (.int .i64 16) := TB.cell 49 (by omega)
  have t2 : w1.cell? ⟨0, 50, none⟩ = some (.int .i64 0) := TB.cell 50 (by omega)
  have t3 : w1.cell? ⟨0, 51, none⟩ = some (.int .i64 0) := TB.cell 51 (by omega)
  have t4 : w1.cell? ⟨0, 52, none⟩ = some (.int .i64 0) := TB.cell 52 (by omega)
  have t5 : w1.cell? ⟨0, 53, none⟩ = some (.int .i64 1099511627776) := TB.cell 53 (by omega)
  have t6 : w1.cell? ⟨0, 54, none⟩ = some (.int .i64 1) := TB.cell 54 (by omega)
  have t7 : w1.cell? ⟨0, 55, none⟩ = some (.int .i64 8) := TB.cell 55 (by omega)
  have tlt := TB.lt
  have A2 := (A.out.addBlk [.int .i64 6, .string emp, .string emp, .int .i64 0, .int .i64 0] 35).addBlk [.int .i64 1, .int .i64 16, .int .i64 0, .int .i64 0, .int .i64 0, .int .i64 1099511627776, .int .i64 1, .int .i64 8] 103
  have hsz : (w1.alloc (.cells [.int .i64 6, .string emp, .string emp, .int .i64 0, .int .i64 0].toArray 35)).heap.size = w1.heap.size + 1 := by simp
  rw [hsz] at A2
  clear A TB hsz
  generalize hO : w1.heap.size = o at A2 tlt
  have A := hid (A2.perm (ds := rdC b D rv1 (r.num 8) :: blkC (o + 1) [.int .i64 1, .int .i64 16, .int .i64 0, .int .i64 0, .int .i64 0, .int .i64 1099511627776, .int .i64 1, .int .i64 8] 103 :: blkC o [.int .i64 6, .string emp, .string emp, .int .i64 0, .int .i64 0] 35 :: blkC w.heap.size [.int .i64 0, .string ⟨#[]⟩, .string ⟨#[]⟩, .int .i64 0, .int .i64 0] 35 :: cs) (List.perm_middle (l₁ := [blkC (o + 1) [.int .i64 1, .int .i64 16, .int .i64 0, .int .i64 0, .int .i64 0, .int .i64 1099511627776, .int .i64 1, .int .i64 8] 103, blkC o [.int .i64 6, .string emp, .string emp, .int .i64 0, .int .i64 0] 35])))
  clear A2
  go_wp2_with fail
  refine (has_any 1 16).mono ?_
  rintro e w2 ⟨rfl, Bh⟩
  rw [show hs 16 = true by decide +kernel]
  have A := hid (A.out.later Bh)
  clear Bh hO t0 t1 t2 t3 t4 t5 t6 t7 tlt
  have hb := A.out.blk (g := o + 1) (vs := [.int .i64 1, .int .i64 16, .int .i64 0, .int .i64 0, .int .i64 0, .int .i64 1099511627776, .int .i64 1, .int .i64 8]) (t := 103) mem2
  have q : w2.cell? ⟨o + 1, 1, none⟩ = some (.int .i64 16) := by rw [cell_at hb]; rfl
  clear hb
  go_wp2_with fail
  refine (textRd A.out (by have := P1.out; unfold Rst.size at *; omega) 16).mono ?_
  rw [Hnm.out]
  rintro e w3 ⟨rfl, rv3, A1⟩
  have P1 := hid (Nat.le_trans (txt_size (r.num 8) 16) P1.out)
  have A := hid (A1.perm (ds := blkC o [.int .i64 6, .string emp, .string emp, .int .i64 0, .int .i64 0] 35 :: rdC b D rv3 ((r.num 8).txt 16) :: blkC (o + 1) [.int .i64 1, .int .i64 16, .int .i64 0, .int .i64 0, .int .i64 0, .int .i64 1099511627776, .int .i64 1, .int .i64 8] 103 :: blkC w.heap.size [.int .i64 0, .string ⟨#[]⟩, .string ⟨#[]⟩, .int .i64 0, .int .i64 0] 35 :: cs) (List.perm_middle (l₁ := [rdC b D rv3 ((r.num 8).txt 16), blkC (o + 1) [.int .i64 1, .int .i64 16, .int .i64 0, .int .i64 0, .int .i64 0, .int .i64 1099511627776, .int .i64 1, .int .i64 8] 103])))
  clear A1 q
  have hb := A.out.blk (g := o) (vs := [.int .i64 6, .string emp, .string emp, .int .i64 0, .int .i64 0]) (t := 35) List.mem_cons_self
  have q : w3.cell? ⟨o, 1, none⟩ = some (.string emp) := by rw [cell_at hb]; rfl
  have qf : w3.frozen? ⟨o, 1, none⟩ = false := free_at hb 1
  clear hb
  have A := hid (show All (blkC o [.int .i64 6, .string nm, .string emp, .int .i64 0, .int .i64 0] 35 :: rdC b D rv3 ((r.num 8).txt 16) :: blkC (o + 1) [.int .i64 1, .int .i64 16, .int .i64 0, .int .i64 0, .int .i64 0, .int .i64 1099511627776, .int .i64 1, .int .i64 8] 103 :: blkC w.heap.size [.int .i64 0, .string ⟨#[]⟩, .string ⟨#[]⟩, .int .i64 0, .int .i64 0] 35 :: cs) (w3.setCell ⟨o, 1, none⟩ (.string nm)) from A.out.setBlk 1 (.string nm))
  have A := hid (A.out.perm (ds := rdC b D rv3 ((r.num 8).txt 16) :: blkC (o + 1) [.int .i64 1, .int .i64 16, .int .i64 0, .int .i64 0, .int .i64 0, .int .i64 1099511627776, .int .i64 1, .int .i64 8] 103 :: blkC o [.int .i64 6, .string nm, .string emp, .int .i64 0, .int .i64 0] 35 :: blkC w.heap.size [.int .i64 0, .string ⟨#[]⟩, .string ⟨#[]⟩, .int .i64 0, .int .i64 0] 35 :: cs) (List.perm_middle (l₁ := [rdC b D rv3 ((r.num 8).txt 16), blkC (o + 1) [.int .i64 1, .int .i64 16, .int .i64 0, .int .i64 0, .int .i64 0, .int .i64 1099511627776, .int .i64 1, .int .i64 8] 103])).symm)
  generalize hG : w3.setCell ⟨o, 1, none⟩ (.string nm) = w4 at A
  have hb := A.out.blk (g := o + 1) (vs := [.int .i64 1, .int .i64 16, .int .i64 0, .int .i64 0, .int .i64 0, .int .i64 1099511627776, .int .i64 1, .int .i64 8]) (t := 103) mem2
  have r2 : w4.cell? ⟨o + 1, 2, none⟩ = some (.int .i64 0) := by rw [cell_at hb]; rfl
  have r3 : w4.cell? ⟨o + 1, 3, none⟩ = some (.int .i64 0) := by rw [cell_at hb]; rfl
  clear hb
  go_wp2_with fail
  refine (has_any 0 0).mono ?_
  rintro e w5 ⟨rfl, Bh⟩
  rw [show hs 0 = false by decide +kernel]
  have A := hid (A.out.later Bh)
  clear Bh r2 r3
  have hb := A.out.blk (g := o + 1) (vs := [.int .i64 1, .int .i64 16, .int .i64 0, .int .i64 0, .int .i64 0, .int .i64 1099511627776, .int .i64 1, .int .i64 8]) (t := 103) mem2
  have r4 : w5.cell? ⟨o + 1, 4, none⟩ = some (.int .i64 0) := by rw [cell_at hb]; rfl
  have r5 : w5.cell? ⟨o + 1, 5, none⟩ = some (.int .i64 1099511627776) := by rw [cell_at hb]; rfl
  clear hb
  go_wp2_with fail
  refine (has_any 0 1099511627776).mono ?_
  rintro e w6 ⟨rfl, Bh⟩
  rw [show hs 1099511627776 = true by decide +kernel]
  have A := hid (A.out.later Bh)
  clear Bh r4 r5
  have hb := A.out.blk (g := o + 1) (vs := [.int .i64 1, .int .i64 16, .int .i64 0, .int .i64 0, .int .i64 0, .int .i64 1099511627776, .int .i64 1, .int .i64 8]) (t := 103) mem2
  have q : w6.cell? ⟨o + 1, 5, none⟩ = some (.int .i64 1099511627776) := by rw [cell_at hb]; rfl
  clear hb
  go_wp2_with fail
  refine (numRd A.out (by have := P1.out; unfold Rst.size at *; omega) 1099511627776).mono ?_
  rw [Hn.out]
  rintro e w7 ⟨rfl, rv7, A1⟩
  have P1 := hid (Nat.le_trans (num_size ((r.num 8).txt 16) 1099511627776) P1.out)
  have A := hid (A1.perm (ds := blkC o [.int .i64 6, .string nm, .string emp, .int .i64 0, .int .i64 0] 35 :: rdC b D rv7 (((r.num 8).txt 16).num 1099511627776) :: blkC (o + 1) [.int .i64 1, .int .i64 16, .int .i64 0, .int .i64 0, .int .i64 0, .int .i64 1099511627776, .int .i64 1, .int .i64 8] 103 :: blkC w.heap.size [.int .i64 0, .string ⟨#[]⟩, .string ⟨#[]⟩, .int .i64 0, .int .i64 0] 35 :: cs) (List.perm_middle (l₁ := [rdC b D rv7 (((r.num 8).txt 16).num 1099511627776), blkC (o + 1) [.int .i64 1, .int .i64 16, .int .i64 0, .int .i64 0, .int .i64 0, .int .i64 1099511627776, .int .i64 1, .int .i64 8] 103])))
  clear A1 q
  have hb := A.out.blk (g := o) (vs := [.int .i64 6, .string nm, .string emp, .int .i64 0, .int .i64 0]) (t := 35) List.mem_cons_self
  have q : w7.cell? ⟨o, 3, none⟩ = some (.int .i64 0) := by rw [cell_at hb]; rfl
  have qf : w7.frozen? ⟨o, 3, none⟩ = false := free_at hb 3
  clear hb
  have A := hid (show All (blkC o [.int .i64 6, .string nm, .string emp, .int .i64 n, .int .i64 0] 35 :: rdC b D rv7 (((r.num 8).txt 16).num 1099511627776) :: blkC (o + 1) [.int .i64 1, .int .i64 16, .int .i64 0, .int .i64 0, .int .i64 0, .int .i64 1099511627776, .int .i64 1, .int .i64 8] 103 :: blkC w.heap.size [.int .i64 0, .string ⟨#[]⟩, .string ⟨#[]⟩, .int .i64 0, .int .i64 0] 35 :: cs) (w7.setCell ⟨o, 3, none⟩ (.int .i64 n)) from A.out.setBlk 3 (.int .i64 n))
  have A := hid (A.out.perm (ds := rdC b D rv7 (((r.num 8).txt 16).num 1099511627776) :: blkC (o + 1) [.int .i64 1, .int .i64 16, .int .i64 0, .int .i64 0, .int .i64 0, .int .i64 1099511627776, .int .i64 1, .int .i64 8] 103 :: blkC o [.int .i64 6, .string nm, .string emp, .int .i64 n, .int .i64 0] 35 :: blkC w.heap.size [.int .i64 0, .string ⟨#[]⟩, .string ⟨#[]⟩, .int .i64 0, .int .i64 0] 35 :: cs) (List.perm_middle (l₁ := [rdC b D rv7 (((r.num 8).txt 16).num 1099511627776), blkC (o + 1) [.int .i64 1, .int .i64 16, .int .i64 0, .int .i64 0, .int .i64 0, .int .i64 1099511627776, .int .i64 1, .int .i64 8] 103])).symm)
  generalize hG : w7.setCell ⟨o, 3, none⟩ (.int .i64 n) = w8 at A
  have hb := A.out.blk (g := o + 1) (vs := [.int .i64 1, .int .i64 16, .int .i64 0, .int .i64 0, .int .i64 0, .int .i64 1099511627776, .int .i64 1, .int .i64 8]) (t := 103) mem2
  have r6 : w8.cell? ⟨o + 1, 6, none⟩ = some (.int .i64 1) := by rw [cell_at hb]; rfl
  have r7 : w8.cell? ⟨o + 1, 7, none⟩ = some (.int .i64 8) := by rw [cell_at hb]; rfl
  clear hb
  go_wp2_with fail
  refine (has_any 1 8).mono ?_
  rintro e w9 ⟨rfl, Bh⟩
  rw [show hs 8 = true by decide +kernel]
  have A := hid (A.out.later Bh)
  clear Bh r6 r7
  have hb := A.out.blk (g := o + 1) (vs := [.int .i64 1, .int .i64 16, .int .i64 0, .int .i64 0, .int .i64 0, .int .i64 1099511627776, .int .i64 1, .int .i64 8]) (t := 103) mem2
  have q : w9.cell? ⟨o + 1, 7, none⟩ = some (.int .i64 8) := by rw [cell_at hb]; rfl
  clear hb
  go_wp2_with fail
  refine (numRd A.out (by have := P1.out; unfold Rst.size at *; omega) 8).mono ?_
  rw [Hm.out]
  rintro e w10 ⟨rfl, rv10, A1⟩
  have P1 := hid (Nat.le_trans (num_size (((r.num 8).txt 16).num 1099511627776) 8) P1.out)
  have A := hid (A1.perm (ds := blkC o [.int .i64 6, .string nm, .string emp, .int .i64 n, .int .i64 0] 35 :: rdC b D rv10 ((((r.num 8).txt 16).num 1099511627776).num 8) :: blkC (o + 1) [.int .i64 1, .int .i64 16, .int .i64 0, .int .i64 0, .int .i64 0, .int .i64 1099511627776, .int .i64 1, .int .i64 8] 103 :: blkC w.heap.size [.int .i64 0, .string ⟨#[]⟩, .string ⟨#[]⟩, .int .i64 0, .int .i64 0] 35 :: cs) (List.perm_middle (l₁ := [rdC b D rv10 ((((r.num 8).txt 16).num 1099511627776).num 8), blkC (o + 1) [.int .i64 1, .int .i64 16, .int .i64 0, .int .i64 0, .int .i64 0, .int .i64 1099511627776, .int .i64 1, .int .i64 8] 103])))
  clear A1 q
  have hb := A.out.blk (g := o) (vs := [.int .i64 6, .string nm, .string emp, .int .i64 n, .int .i64 0]) (t := 35) List.mem_cons_self
  have q : w10.cell? ⟨o, 4, none⟩ = some (.int .i64 0) := by rw [cell_at hb]; rfl
  have qf : w10.frozen? ⟨o, 4, none⟩ = false := free_at hb 4
  clear hb
  have A := hid (show All (blkC o [.int .i64 6, .string nm, .string emp, .int .i64 n, .int .i64 m] 35 :: rdC b D rv10 ((((r.num 8).txt 16).num 1099511627776).num 8) :: blkC (o + 1) [.int .i64 1, .int .i64 16, .int .i64 0, .int .i64 0, .int .i64 0, .int .i64 1099511627776, .int .i64 1, .int .i64 8] 103 :: blkC w.heap.size [.int .i64 0, .string ⟨#[]⟩, .string ⟨#[]⟩, .int .i64 0, .int .i64 0] 35 :: cs) (w10.setCell ⟨o, 4, none⟩ (.int .i64 m)) from A.out.setBlk 4 (.int .i64 m))
  have A := hid (A.out.perm (ds := rdC b D rv10 ((((r.num 8).txt 16).num 1099511627776).num 8) :: blkC (o + 1) [.int .i64 1, .int .i64 16, .int .i64 0, .int .i64 0, .int .i64 0, .int .i64 1099511627776, .int .i64 1, .int .i64 8] 103 :: blkC o [.int .i64 6, .string nm, .string emp, .int .i64 n, .int .i64 m] 35 :: blkC w.heap.size [.int .i64 0, .string ⟨#[]⟩, .string ⟨#[]⟩, .int .i64 0, .int .i64 0] 35 :: cs) (List.perm_middle (l₁ := [rdC b D rv10 ((((r.num 8).txt 16).num 1099511627776).num 8), blkC (o + 1) [.int .i64 1, .int .i64 16, .int .i64 0, .int .i64 0, .int .i64 0, .int .i64 1099511627776, .int .i64 1, .int .i64 8] 103])).symm)
  generalize hG : w10.setCell ⟨o, 4, none⟩ (.int .i64 m) = w11 at A
  rw [H5.out] at A
  clear H5
  have hb := A.out.blk (g := o) (vs := [.int .i64 6, .string nm, .string emp, .int .i64 n, .int .i64 m]) (t := 35) mem3
  have o0 : w11.cell? ⟨o, 0, none⟩ = some (.int .i64 6) := by rw [cell_at hb]; rfl
  have o1 : w11.cell? ⟨o, 1, none⟩ = some (.string nm) := by rw [cell_at hb]; rfl
  have o2 : w11.cell? ⟨o, 2, none⟩ = some (.string emp) := by rw [cell_at hb]; rfl
  have o3 : w11.cell? ⟨o, 3, none⟩ = some (.int .i64 n) := by rw [cell_at hb]; rfl
  have o4 : w11.cell? ⟨o, 4, none⟩ = some (.int .i64 m) := by rw [cell_at hb]; rfl
  clear hb
  go_wp2_with fail
  refine (check_any (HT.out _ A.out.tail.tail.tail.tail) 6 nm emp n m).mono ?_
  rw [Hck.out]
  rintro e w12 ⟨rfl, Bh⟩
  have A := hid (A.out.later Bh)
  clear Bh o0 o1 o2 o3 o4
  go_wp2_with fail
  refine (failRd A.out ck).mono ?_
  rw [HRR.out]
  rintro e w13 ⟨rfl, rv13, A1⟩
  have A := hid A1
  clear A1
  go_wp2_with fail
  refine (wholeRd A.out).mono ?_
  rintro e wz ⟨rfl, A1⟩
  have A := hid (A1.perm (ds := blkC w.heap.size [.int .i64 0, .string ⟨#[]⟩, .string ⟨#[]⟩, .int .i64 0, .int .i64 0] 35 :: rdC b D rv13 R :: blkC (o + 1) [.int .i64 1, .int .i64 16, .int .i64 0, .int .i64 0, .int .i64 0, .int .i64 1099511627776, .int .i64 1, .int .i64 8] 103 :: blkC o [.int .i64 6, .string nm, .string emp, .int .i64 n, .int .i64 m] 35 :: cs) (List.perm_middle (l₁ := [rdC b D rv13 R, blkC (o + 1) [.int .i64 1, .int .i64 16, .int .i64 0, .int .i64 0, .int .i64 0, .int .i64 1099511627776, .int .i64 1, .int .i64 8] 103, blkC o [.int .i64 6, .string nm, .string emp, .int .i64 n, .int .i64 m] 35])))
  clear A1 HT HRR Hck P1
  by_cases her : R.err = 0
  · have e1 : (R.err == 0) = true := by rw [beq_iff_eq]; exact her
    rw [e1]
    have her := hid her
    clear e1
    have hb := A.out.blk (g := w.heap.size) (vs := [.int .i64 0, .string ⟨#[]⟩, .string ⟨#[]⟩, .int .i64 0, .int .i64 0]) (t := 35) List.mem_cons_self
    have z0 : wz.cell? ⟨w.heap.size, 0, none⟩ = some (.int .i64 0) := by rw [cell_at hb]; rfl
    have zf0 : wz.frozen? ⟨w.heap.size, 0, none⟩ = false := free_at hb 0
    have z1 : wz.cell? ⟨w.heap.size, 1, none⟩ = some (.string ⟨#[]⟩) := by rw [cell_at hb]; rfl
    have zf1 : wz.frozen? ⟨w.heap.size, 1, none⟩ = false := free_at hb 1
    have z2 : wz.cell? ⟨w.heap.size, 2, none⟩ = some (.string ⟨#[]⟩) := by rw [cell_at hb]; rfl
    have zf2 : wz.frozen? ⟨w.heap.size, 2, none⟩ = false := free_at hb 2
    have z3 : wz.cell? ⟨w.heap.size, 3, none⟩ = some (.int .i64 0) := by rw [cell_at hb]; rfl
    have zf3 : wz.frozen? ⟨w.heap.size, 3, none⟩ = false := free_at hb 3
    have z4 : wz.cell? ⟨w.heap.size, 4, none⟩ = some (.int .i64 0) := by rw [cell_at hb]; rfl
    have zf4 : wz.frozen? ⟨w.heap.size, 4, none⟩ = false := free_at hb 4
    clear hb
    have hb := A.out.blk (g := o) (vs := [.int .i64 6, .string nm, .string emp, .int .i64 n, .int .i64 m]) (t := 35) mem4
    have o0 : wz.cell? ⟨o, 0, none⟩ = some (.int .i64 6) := by rw [cell_at hb]; rfl
    have o1 : wz.cell? ⟨o, 1, none⟩ = some (.string nm) := by rw [cell_at hb]; rfl
    have o2 : wz.cell? ⟨o, 2, none⟩ = some (.string emp) := by rw [cell_at hb]; rfl
    have o3 : wz.cell? ⟨o, 3, none⟩ = some (.int .i64 n) := by rw [cell_at hb]; rfl
    have o4 : wz.cell? ⟨o, 4, none⟩ = some (.int .i64 m) := by rw [cell_at hb]; rfl
    clear hb
    have A := hid ((((((A.out.setBlk 0 (.int .i64 6)).setBlk 1 (.string nm)).setBlk 2 (.string emp)).setBlk 3 (.int .i64 n)).setBlk 4 (.int .i64 m)))
    go_wp2
    refine bodyPost_ret (v := opV 6 nm emp n m) (res26 (b := w.heap.size) rfl A.out.1.2.1) rfl ?_
    refine ⟨by rw [gotV, if_pos her.out], rv13, ?_⟩
    exact ((A.out.tail).swap.tail).swap.tail
  · have e1 : (R.err == 0) = false := by rw [beq_eq_false_iff_ne]; exact her
    rw [e1]
    have her := hid her
    clear e1
    have hb := A.out.blk (g := w.heap.size) (vs := [.int .i64 0, .string ⟨#[]⟩, .string ⟨#[]⟩, .int .i64 0, .int .i64 0]) (t := 35) List.mem_cons_self
    have z0 : wz.cell? ⟨w.heap.size, 0, none⟩ = some (.int .i64 0) := by rw [cell_at hb]; rfl
    have zf0 : wz.frozen? ⟨w.heap.size, 0, none⟩ = false := free_at hb 0
    have z1 : wz.cell? ⟨w.heap.size, 1, none⟩ = some (.string ⟨#[]⟩) := by rw [cell_at hb]; rfl
    have zf1 : wz.frozen? ⟨w.heap.size, 1, none⟩ = false := free_at hb 1
    have z2 : wz.cell? ⟨w.heap.size, 2, none⟩ = some (.string ⟨#[]⟩) := by rw [cell_at hb]; rfl
    have zf2 : wz.frozen? ⟨w.heap.size, 2, none⟩ = false := free_at hb 2
    have z3 : wz.cell? ⟨w.heap.size, 3, none⟩ = some (.int .i64 0) := by rw [cell_at hb]; rfl
    have zf3 : wz.frozen? ⟨w.heap.size, 3, none⟩ = false := free_at hb 3
    have z4 : wz.cell? ⟨w.heap.size, 4, none⟩ = some (.int .i64 0) := by rw [cell_at hb]; rfl
    have zf4 : wz.frozen? ⟨w.heap.size, 4, none⟩ = false := free_at hb 4
    clear hb
    have A := hid ((((((A.out.setBlk 0 (.int .i64 0)).setBlk 1 (.string emp)).setBlk 2 (.string emp)).setBlk 3 (.int .i64 0)).setBlk 4 (.int .i64 0)))
    go_wp2
    refine bodyPost_ret (v := opV 0 emp emp 0 0) (res26 (b := w.heap.size) rfl A.out.1.2.1) rfl ?_
    refine ⟨by rw [gotV, if_neg her.out], rv13, ?_⟩
    exact ((A.out.tail).swap.tail).swap.tail

set_option maxHeartbeats 3200000 in
set_option maxRecDepth 1000000 in
theorem get7 {b : Nat} {D : Option Nat} {rv : Value} {r : Rst} {cs : List Comp} {w : World} (h : All (rdC b D rv r :: cs) w) (ht : ∀ w', All cs w' → Tab w') (hp : r.size ≤ 140737488355328) (hk : r.numV 8 = 7) :
    Calls Tryz.prog 12 #[.pointer (some ⟨b, 0, none⟩)] w fun e w' => e = .returned (gotV (((r.num 8).txt 16).fail (chkA 7 (ByteArray.size ((r.num 8).txtV 16)) (ByteArray.size emp) 0 0)) 7 ((r.num 8).txtV 16) emp 0 0) ∧ ∃ rv', All (rdC b D rv' (((r.num 8).txt 16).fail (chkA 7 (ByteArray.size ((r.num 8).txtV 16)) (ByteArray.size emp) 0 0)) :: cs) w' := by
  have A := hid (h.addBlk [.int .i64 0, .string ⟨#[]⟩, .string ⟨#[]⟩, .int .i64 0, .int .i64 0] 35).swap
  have HT := hid ht
  have HK := hid hk
  have P1 := hid (num_size r 8)
  clear h ht hk
  generalize hnm : ((r.num 8).txtV 16) = nm
  have Hnm := hid hnm
  clear hnm
  generalize h5 : ((r.num 8).txt 16) = r5
  have H5 := hid h5
  clear h5
  generalize hck : chkA 7 (ByteArray.size nm) (ByteArray.size emp) 0 0 = ck
  have Hck := hid hck
  clear hck
  generalize hRR : r5.fail ck = R
  have HRR := hid hRR
  clear hRR
  go_enter Tryz.func12, Tryz.ntmps12
  go_wp2_with fail
  refine (numRd A.out hp 8).mono ?_
  rw [HK.out]
  rintro e w1 ⟨rfl, rv1, A1⟩
  have A := hid A1
  clear A1 HK
  have TB := HT.out _ A.out.tail.tail
  have t0 : w1.cell? ⟨0, 56, none⟩ = some (.int .i64 1) := TB.cell 56 (by omega)
  have t1 : w1.cell? ⟨0, 57, none⟩ = some (.int .i64 16) := TB.cell 57 (by omega)
  have t2 : w1.cell? ⟨0, 58, none⟩ = some (.int .i64 0) := TB.cell 58 (by omega)
  have t3 : w1.cell? ⟨0, 59, none⟩ = some (.int .i64 0) := TB.cell 59 (by omega)
  have t4 : w1.cell? ⟨0, 60, none⟩ = some (.int .i64 0) := TB.cell 60 (by omega)
  have t5 : w1.cell? ⟨0, 61, none⟩ = some (.int .i64 0) := TB.cell 61 (by omega)
  have t6 : w1.cell? ⟨0, 62, none⟩ = some (.int .i64 0) := TB.cell 62 (by omega)
  have t7 : w1.cell? ⟨0, 63, none⟩ = some (.int .i64 0) := TB.cell 63 (by omega)
  have tlt := TB.lt
  have A2 := (A.out.addBlk [.int .i64 7, .string emp, .string emp, .int .i64 0, .int .i64 0] 35).addBlk [.int .i64 1, .int .i64 16, .int .i64 0, .int .i64 0, .int .i64 0, .int .i64 0, .int .i64 0, .int .i64 0] 103
  have hsz : (w1.alloc (.cells [.int .i64 7, .string emp, .string emp, .int .i64 0, .int .i64 0].toArray 35)).heap.size = w1.heap.size + 1 := by simp
  rw [hsz] at A2
  clear A TB hsz
  generalize hO : w1.heap.size = o at A2 tlt
  have A := hid (A2.perm (ds := rdC b D rv1 (r.num 8) :: blkC (o + 1) [.int .i64 1, .int .i64 16, .int .i64 0, .int .i64 0, .int .i64 0, .int .i64 0, .int .i64 0, .int .i64 0] 103 :: blkC o [.int .i64 7, .string emp, .string emp, .int .i64 0, .int .i64 0] 35 :: blkC w.heap.size [.int .i64 0, .string ⟨#[]⟩, .string ⟨#[]⟩, .int .i64 0, .int .i64 0] 35 :: cs) (List.perm_middle (l₁ := [blkC (o + 1) [.int .i64 1, .int .i64 16, .int .i64 0, .int .i64 0, .int .i64 0, .int .i64 0, .int .i64 0, .int .i64 0] 103, blkC o [.int .i64 7, .string emp, .string emp, .int .i64 0, .int .i64 0] 35])))
  clear A2
  go_wp2_with fail
  refine (has_any 1 16).mono ?_
  rintro e w2 ⟨rfl, Bh⟩
  rw [show hs 16 = true by decide +kernel]
  have A := hid (A.out.later Bh)
  clear Bh hO t0 t1 t2 t3 t4 t5 t6 t7 tlt
  have hb := A.out.blk (g := o + 1) (vs := [.int .i64 1, .int .i64 16, .int .i64 0, .int .i64 0, .int .i64 0, .int .i64 0, .int .i64 0, .int .i64 0]) (t := 103) mem2
  have q : w2.cell? ⟨o + 1, 1, none⟩ = some (.int .i64 16) := by rw [cell_at hb]; rfl
  clear hb
  go_wp2_with fail
  refine (textRd A.out (by have := P1.out; unfold Rst.size at *; omega) 16).mono ?_
  rw [Hnm.out]
  rintro e w3 ⟨rfl, rv3, A1⟩
  have P1 := hid (Nat.le_trans (txt_size (r.num 8) 16) P1.out)
  have A := hid (A1.perm (ds := blkC o [.int .i64 7, .string emp, .string emp, .int .i64 0, .int .i64 0] 35 :: rdC b D rv3 ((r.num 8).txt 16) :: blkC (o + 1) [.int .i64 1, .int .i64 16, .int .i64 0, .int .i64 0, .int .i64 0, .int .i64 0, .int .i64 0, .int .i64 0] 103 :: blkC w.heap.size [.int .i64 0, .string ⟨#[]⟩, .string ⟨#[]⟩, .int .i64 0, .int .i64 0] 35 :: cs) (List.perm_middle (l₁ := [rdC b D rv3 ((r.num 8).txt 16), blkC (o + 1) [.int .i64 1, .int .i64 16, .int .i64 0, .int .i64 0, .int .i64 0, .int .i64 0, .int .i64 0, .int .i64 0] 103])))
  clear A1 q
  have hb := A.out.blk (g := o) (vs := [.int .i64 7, .string emp, .string emp, .int .i64 0, .int .i64 0]) (t := 35) List.mem_cons_self
  have q : w3.cell? ⟨o, 1, none⟩ = some (.string emp) := by rw [cell_at hb]; rfl
  have qf : w3.frozen? ⟨o, 1, none⟩ = false := free_at hb 1
  clear hb
  have A := hid (show All (blkC o [.int .i64 7, .string nm, .string emp, .int .i64 0, .int .i64 0] 35 :: rdC b D rv3 ((r.num 8).txt 16) :: blkC (o + 1) [.int .i64 1, .int .i64 16, .int .i64 0, .int .i64 0, .int .i64 0, .int .i64 0, .int .i64 0, .int .i64 0] 103 :: blkC w.heap.size [.int .i64 0, .string ⟨#[]⟩, .string ⟨#[]⟩, .int .i64 0, .int .i64 0] 35 :: cs) (w3.setCell ⟨o, 1, none⟩ (.string nm)) from A.out.setBlk 1 (.string nm))
  have A := hid (A.out.perm (ds := rdC b D rv3 ((r.num 8).txt 16) :: blkC (o + 1) [.int .i64 1, .int .i64 16, .int .i64 0, .int .i64 0, .int .i64 0, .int .i64 0, .int .i64 0, .int .i64 0] 103 :: blkC o [.int .i64 7, .string nm, .string emp, .int .i64 0, .int .i64 0] 35 :: blkC w.heap.size [.int .i64 0, .string ⟨#[]⟩, .string ⟨#[]⟩, .int .i64 0, .int .i64 0] 35 :: cs) (List.perm_middle (l₁ := [rdC b D rv3 ((r.num 8).txt 16), blkC (o + 1) [.int .i64 1, .int .i64 16, .int .i64 0, .int .i64 0, .int .i64 0, .int .i64 0, .int .i64 0, .int .i64 0] 103])).symm)
  generalize hG : w3.setCell ⟨o, 1, none⟩ (.string nm) = w4 at A
  have hb := A.out.blk (g := o + 1) (vs := [.int .i64 1, .int .i64 16, .int .i64 0, .int .i64 0, .int .i64 0, .int .i64 0, .int .i64 0, .int .i64 0]) (t := 103) mem2
  have r2 : w4.cell? ⟨o + 1, 2, none⟩ = some (.int .i64 0) := by rw [cell_at hb]; rfl
  have r3 : w4.cell? ⟨o + 1, 3, none⟩ = some (.int .i64 0) := by rw [cell_at hb]; rfl
  clear hb
  go_wp2_with fail
  refine (has_any 0 0).mono ?_
  rintro e w5 ⟨rfl, Bh⟩
  rw [show hs 0 = false by decide +kernel]
  have A := hid (A.out.later Bh)
  clear Bh r2 r3
  have hb := A.out.blk (g := o + 1) (vs := [.int .i64 1, .int .i64 16, .int .i64 0, .int .i64 0, .int .i64 0, .int .i64 0, .int .i64 0, .int .i64 0]) (t := 103) mem2
  have r4 : w5.cell? ⟨o + 1, 4, none⟩ = some (.int .i64 0) := by rw [cell_at hb]; rfl
  have r5 : w5.cell? ⟨o + 1, 5, none⟩ = some (.int .i64 0) := by rw [cell_at hb]; rfl
  clear hb
  go_wp2_with fail
  refine (has_any 0 0).mono ?_
  rintro e w6 ⟨rfl, Bh⟩
  rw [show hs 0 = false by decide +kernel]
  have A := hid (A.out.later Bh)
  clear Bh r4 r5
  have hb := A.out.blk (g := o + 1) (vs := [.int .i64 1, .int .i64 16, .int .i64 0, .int .i64 0, .int .i64 0, .int .i64 0, .int .i64 0, .int .i64 0]) (t := 103) mem2
  have r6 : w6.cell? ⟨o + 1, 6, none⟩ = some (.int .i64 0) := by rw [cell_at hb]; rfl
  have r7 : w6.cell? ⟨o + 1, 7, none⟩ = some (.int .i64 0) := by rw [cell_at hb]; rfl
  clear hb
  go_wp2_with fail
  refine (has_any 0 0).mono ?_
  rintro e w7 ⟨rfl, Bh⟩
  rw [show hs 0 = false by decide +kernel]
  have A := hid (A.out.later Bh)
  clear Bh r6 r7
  rw [H5.out] at A
  clear H5
  have hb := A.out.blk (g := o) (vs := [.int .i64 7, .string nm, .string emp, .int .i64 0, .int .i64 0]) (t := 35) mem3
  have o0 : w7.cell? ⟨o, 0, none⟩ = some (.int .i64 7) := by rw [cell_at hb]; rfl
  have o1 : w7.cell? ⟨o, 1, none⟩ = some (.string nm) := by rw [cell_at hb]; rfl
  have o2 : w7.cell? ⟨o, 2, none⟩ = some (.string emp) := by rw [cell_at hb]; rfl
  have o3 : w7.cell? ⟨o, 3, none⟩ = some (.int .i64 0) := by rw [cell_at hb]; rfl
  have o4 : w7.cell? ⟨o, 4, none⟩ = some (.int .i64 0) := by rw [cell_at hb]; rfl
  clear hb
  go_wp2_with fail
  refine (check_any (HT.out _ A.out.tail.tail.tail.tail) 7 nm emp 0 0).mono ?_
  rw [Hck.out]
  rintro e w8 ⟨rfl, Bh⟩
  have A := hid (A.out.later Bh)
  clear Bh o0 o1 o2 o3 o4
  go_wp2_with fail
  refine (failRd A.out ck).mono ?_
  rw [HRR.out]
  rintro e w9 ⟨rfl, rv9, A1⟩
  have A := hid A1
  clear A1
  go_wp2_with fail
  refine (wholeRd A.out).mono ?_
  rintro e wz ⟨rfl, A1⟩
  have A := hid (A1.perm (ds := blkC w.heap.size [.int .i64 0, .string ⟨#[]⟩, .string ⟨#[]⟩, .int .i64 0, .int .i64 0] 35 :: rdC b D rv9 R :: blkC (o + 1) [.int .i64 1, .int .i64 16, .int .i64 0, .int .i64 0, .int .i64 0, .int .i64 0, .int .i64 0, .int .i64 0] 103 :: blkC o [.int .i64 7, .string nm, .string emp, .int .i64 0, .int .i64 0] 35 :: cs) (List.perm_middle (l₁ := [rdC b D rv9 R, blkC (o + 1) [.int .i64 1, .int .i64 16, .int .i64 0, .int .i64 0, .int .i64 0, .int .i64 0, .int .i64 0, .int .i64 0] 103, blkC o [.int .i64 7, .string nm, .string emp, .int .i64 0, .int .i64 0] 35])))
  clear A1 HT HRR Hck P1
  by_cases her : R.err = 0
  · have e1 : (R.err == 0) = true := by rw [beq_iff_eq]; exact her
    rw [e1]
    have her := hid her
    clear e1
    have hb := A.out.blk (g := w.heap.size) (vs := [.int .i64 0, .string ⟨#[]⟩, .string ⟨#[]⟩, .int .i64 0, .int .i64 0]) (t := 35) List.mem_cons_self
    have z0 : wz.cell? ⟨w.heap.size, 0, none⟩ = some (.int .i64 0) := by rw [cell_at hb]; rfl
    have zf0 : wz.frozen? ⟨w.heap.size, 0, none⟩ = false := free_at hb 0
    have z1 : wz.cell? ⟨w.heap.size, 1, none⟩ = some (.string ⟨#[]⟩) := by rw [cell_at hb]; rfl
    have zf1 : wz.frozen? ⟨w.heap.size, 1, none⟩ = false := free_at hb 1
    have z2 : wz.cell? ⟨w.heap.size, 2, none⟩ = some (.string ⟨#[]⟩) := by rw [cell_at hb]; rfl
    have zf2 : wz.frozen? ⟨w.heap.size, 2, none⟩ = false := free_at hb 2
    have z3 : wz.cell? ⟨w.heap.size, 3, none⟩ = some (.int .i64 0) := by rw [cell_at hb]; rfl
    have zf3 : wz.frozen? ⟨w.heap.size, 3, none⟩ = false := free_at hb 3
    have z4 : wz.cell? ⟨w.heap.size, 4, none⟩ = some (.int .i64 0) := by rw [cell_at hb]; rfl
    have zf4 : wz.frozen? ⟨w.heap.size, 4, none⟩ = false := free_at hb 4
    clear hb
    have hb := A.out.blk (g := o) (vs := [.int .i64 7, .string nm, .string emp, .int .i64 0, .int .i64 0]) (t := 35) mem4
    have o0 : wz.cell? ⟨o, 0, none⟩ = some (.int .i64 7) := by rw [cell_at hb]; rfl
    have o1 : wz.cell? ⟨o, 1, none⟩ = some (.string nm) := by rw [cell_at hb]; rfl
    have o2 : wz.cell? ⟨o, 2, none⟩ = some (.string emp) := by rw [cell_at hb]; rfl
    have o3 : wz.cell? ⟨o, 3, none⟩ = some (.int .i64 0) := by rw [cell_at hb]; rfl
    have o4 : wz.cell? ⟨o, 4, none⟩ = some (.int .i64 0) := by rw [cell_at hb]; rfl
    clear hb
    have A := hid ((((((A.out.setBlk 0 (.int .i64 7)).setBlk 1 (.string nm)).setBlk 2 (.string emp)).setBlk 3 (.int .i64 0)).setBlk 4 (.int .i64 0)))
    go_wp2
    refine bodyPost_ret (v := opV 7 nm emp 0 0) (res26 (b := w.heap.size) rfl A.out.1.2.1) rfl ?_
    refine ⟨by rw [gotV, if_pos her.out], rv9, ?_⟩
    exact ((A.out.tail).swap.tail).swap.tail
  · have e1 : (R.err == 0) = false := by rw [beq_eq_false_iff_ne]; exact her
    rw [e1]
    have her := hid her
    clear e1
    have hb := A.out.blk (g := w.heap.size) (vs := [.int .i64 0, .string ⟨#[]⟩, .string ⟨#[]⟩, .int .i64 0, .int .i64 0]) (t := 35) List.mem_cons_self
    have z0 : wz.cell? ⟨w.heap.size, 0, none⟩ = some (.int .i64 0) := by rw [cell_at hb]; rfl
    have zf0 : wz.frozen? ⟨w.heap.size, 0, none⟩ = false := free_at hb 0
    have z1 : wz.cell? ⟨w.heap.size, 1, none⟩ = some (.string ⟨#[]⟩) := by rw [cell_at hb]; rfl
    have zf1 : wz.frozen? ⟨w.heap.size, 1, none⟩ = false := free_at hb 1
    have z2 : wz.cell? ⟨w.heap.size, 2, none⟩ = some (.string ⟨#[]⟩) := by rw [cell_at hb]; rfl
    have zf2 : wz.frozen? ⟨w.heap.size, 2, none⟩ = false := free_at hb 2
    have z3 : wz.cell? ⟨w.heap.size, 3, none⟩ = some (.int .i64 0) := by rw [cell_at hb]; rfl
    have zf3 : wz.frozen? ⟨w.heap.size, 3, none⟩ = false := free_at hb 3
    have z4 : wz.cell? ⟨w.heap.size, 4, none⟩ = some (.int .i64 0) := by rw [cell_at hb]; rfl
    have zf4 : wz.frozen? ⟨w.heap.size, 4, none⟩ = false := free_at hb 4
    clear hb
    have A := hid ((((((A.out.setBlk 0 (.int .i64 0)).setBlk 1 (.string emp)).setBlk 2 (.string emp)).setBlk 3 (.int .i64 0)).setBlk 4 (.int .i64 0)))
    go_wp2
    refine bodyPost_ret (v := opV 0 emp emp 0 0) (res26 (b := w.heap.size) rfl A.out.1.2.1) rfl ?_
    refine ⟨by rw [gotV, if_neg her.out], rv9, ?_⟩
    exact ((A.out.tail).swap.tail).swap.tail

set_option maxHeartbeats 3200000 in
set_option maxRecDepth 1000000 in
theorem get8 {b : Nat} {D : Option Nat} {rv : Value} {r : Rst} {cs : List Comp} {w : World} (h : All (rdC b D rv r :: cs) w) (ht : ∀ w', All cs w' → Tab w') (hp : r.size ≤ 140737488355328) (hk : r.numV 8 = 8) :
    Calls Tryz.prog 12 #[.pointer (some ⟨b, 0, none⟩)] w fun e w' => e = .returned (gotV ((r.num 8).fail (chkA 8 (ByteArray.size emp) (ByteArray.size emp) 0 0)) 8 emp emp 0 0) ∧ ∃ rv', All (rdC b D rv' ((r.num 8).fail (chkA 8 (ByteArray.size emp) (ByteArray.size emp) 0 0)) :: cs) w' := by
  have A := hid (h.addBlk [.int .i64 0, .string ⟨#[]⟩, .string ⟨#[]⟩, .int .i64 0, .int .i64 0] 35).swap
  have HT := hid ht
  have HK := hid hk
  have P1 := hid (num_size r 8)
  clear h ht hk
  generalize h5 : (r.num 8) = r5
  have H5 := hid h5
  clear h5
  generalize hck : chkA 8 (ByteArray.size emp) (ByteArray.size emp) 0 0 = ck
  have Hck := hid hck
  clear hck
  generalize hRR : r5.fail ck = R
  have HRR := hid hRR
  clear hRR
  go_enter Tryz.func12, Tryz.ntmps12
  go_wp2_with fail
  refine (numRd A.out hp 8).mono ?_
  rw [HK.out]
  rintro e w1 ⟨rfl, rv1, A1⟩
  have A := hid A1
  clear A1 HK
  have TB := HT.out _ A.out.tail.tail
  have t0 : w1.cell? ⟨0, 64, none⟩ = some (.int .i64 0) := TB.cell 64 (by omega)
  have t1 : w1.cell? ⟨0, 65, none⟩ = some (.int .i64 0) := TB.cell 65 (by omega)
  have t2 : w1.cell? ⟨0, 66, none⟩ = some (.int .i64 0) := TB.cell 66 (by omega)
  have t3 : w1.cell? ⟨0, 67, none⟩ = some (.int .i64 0) := TB.cell 67 (by omega)
  have t4 : w1.cell? ⟨0, 68, none⟩ = some (.int .i64 0) := TB.cell 68 (by omega)
  have t5 : w1.cell? ⟨0, 69, none⟩ = some (.int .i64 0) := TB.cell 69 (by omega)
  have t6 : w1.cell? ⟨0, 70, none⟩ = some (.int .i64 0) := TB.cell 70 (by omega)
  have t7 : w1.cell? ⟨0, 71, none⟩ = some (.int .i64 0) := TB.cell 71 (by omega)
  have tlt := TB.lt
  have A2 := (A.out.addBlk [.int .i64 8, .string emp, .string emp, .int .i64 0, .int .i64 0] 35).addBlk [.int .i64 0, .int .i64 0, .int .i64 0, .int .i64 0, .int .i64 0, .int .i64 0, .int .i64 0, .int .i64 0] 103
  have hsz : (w1.alloc (.cells [.int .i64 8, .string emp, .string emp, .int .i64 0, .int .i64 0].toArray 35)).heap.size = w1.heap.size + 1 := by simp
  rw [hsz] at A2
  clear A TB hsz
  generalize hO : w1.heap.size = o at A2 tlt
  have A := hid (A2.perm (ds := rdC b D rv1 (r.num 8) :: blkC (o + 1) [.int .i64 0, .int .i64 0, .int .i64 0, .int .i64 0, .int .i64 0, .int .i64 0, .int .i64 0, .int .i64 0] 103 :: blkC o [.int .i64 8, .string emp, .string emp, .int .i64 0, .int .i64 0] 35 :: blkC w.heap.size [.int .i64 0, .string ⟨#[]⟩, .string ⟨#[]⟩, .int .i64 0, .int .i64 0] 35 :: cs) (List.perm_middle (l₁ := [blkC (o + 1) [.int .i64 0, .int .i64 0, .int .i64 0, .int .i64 0, .int .i64 0, .int .i64 0, .int .i64 0, .int .i64 0] 103, blkC o [.int .i64 8, .string emp, .string emp, .int .i64 0, .int .i64 0] 35])))
  clear A2
  go_wp2_with fail
  refine (has_any 0 0).mono ?_
  rintro e w2 ⟨rfl, Bh⟩
  rw [show hs 0 = false by decide +kernel]
  have A := hid (A.out.later Bh)
  clear Bh hO t0 t1 t2 t3 t4 t5 t6 t7 tlt
  have hb := A.out.blk (g := o + 1) (vs := [.int .i64 0, .int .i64 0, .int .i64 0, .int .i64 0, .int .i64 0, .int .i64 0, .int .i64 0, .int .i64 0]) (t := 103) mem2
  have r2 : w2.cell? ⟨o + 1, 2, none⟩ = some (.int .i64 0) := by rw [cell_at hb]; rfl
  have r3 : w2.cell? ⟨o + 1, 3, none⟩ = some (.int .i64 0) := by rw [cell_at hb]; rfl
  clear hb
  go_wp2_with fail
  refine (has_any 0 0).mono ?_
  rintro e w3 ⟨rfl, Bh⟩
  rw [show hs 0 = false by decide +kernel]
  have A := hid (A.out.later Bh)
  clear Bh r2 r3
  have hb := A.out.blk (g := o + 1) (vs := [.int .i64 0, .int .i64 0, .int .i64 0, .int .i64 0, .int .i64 0, .int .i64 0, .int .i64 0, .int .i64 0]) (t := 103) mem2
  have r4 : w3.cell? ⟨o + 1, 4, none⟩ = some (.int .i64 0) := by rw [cell_at hb]; rfl
  have r5 : w3.cell? ⟨o + 1, 5, none⟩ = some (.int .i64 0) := by rw [cell_at hb]; rfl
  clear hb
  go_wp2_with fail
  refine (has_any 0 0).mono ?_
  rintro e w4 ⟨rfl, Bh⟩
  rw [show hs 0 = false by decide +kernel]
  have A := hid (A.out.later Bh)
  clear Bh r4 r5
  have hb := A.out.blk (g := o + 1) (vs := [.int .i64 0, .int .i64 0, .int .i64 0, .int .i64 0, .int .i64 0, .int .i64 0, .int .i64 0, .int .i64 0]) (t := 103) mem2
  have r6 : w4.cell? ⟨o + 1, 6, none⟩ = some (.int .i64 0) := by rw [cell_at hb]; rfl
  have r7 : w4.cell? ⟨o + 1, 7, none⟩ = some (.int .i64 0) := by rw [cell_at hb]; rfl
  clear hb
  go_wp2_with fail
  refine (has_any 0 0).mono ?_
  rintro e w5 ⟨rfl, Bh⟩
  rw [show hs 0 = false by decide +kernel]
  have A := hid (A.out.later Bh)
  clear Bh r6 r7
  rw [H5.out] at A
  clear H5
  have hb := A.out.blk (g := o) (vs := [.int .i64 8, .string emp, .string emp, .int .i64 0, .int .i64 0]) (t := 35) mem3
  have o0 : w5.cell? ⟨o, 0, none⟩ = some (.int .i64 8) := by rw [cell_at hb]; rfl
  have o1 : w5.cell? ⟨o, 1, none⟩ = some (.string emp) := by rw [cell_at hb]; rfl
  have o2 : w5.cell? ⟨o, 2, none⟩ = some (.string emp) := by rw [cell_at hb]; rfl
  have o3 : w5.cell? ⟨o, 3, none⟩ = some (.int .i64 0) := by rw [cell_at hb]; rfl
  have o4 : w5.cell? ⟨o, 4, none⟩ = some (.int .i64 0) := by rw [cell_at hb]; rfl
  clear hb
  go_wp2_with fail
  refine (check_any (HT.out _ A.out.tail.tail.tail.tail) 8 emp emp 0 0).mono ?_
  rw [Hck.out]
  rintro e w6 ⟨rfl, Bh⟩
  have A := hid (A.out.later Bh)
  clear Bh o0 o1 o2 o3 o4
  go_wp2_with fail
  refine (failRd A.out ck).mono ?_
  rw [HRR.out]
  rintro e w7 ⟨rfl, rv7, A1⟩
  have A := hid A1
  clear A1
  go_wp2_with fail
  refine (wholeRd A.out).mono ?_
  rintro e wz ⟨rfl, A1⟩
  have A := hid (A1.perm (ds := blkC w.heap.size [.int .i64 0, .string ⟨#[]⟩, .string ⟨#[]⟩, .int .i64 0, .int .i64 0] 35 :: rdC b D rv7 R :: blkC (o + 1) [.int .i64 0, .int .i64 0, .int .i64 0, .int .i64 0, .int .i64 0, .int .i64 0, .int .i64 0, .int .i64 0] 103 :: blkC o [.int .i64 8, .string emp, .string emp, .int .i64 0, .int .i64 0] 35 :: cs) (List.perm_middle (l₁ := [rdC b D rv7 R, blkC (o + 1) [.int .i64 0, .int .i64 0, .int .i64 0, .int .i64 0, .int .i64 0, .int .i64 0, .int .i64 0, .int .i64 0] 103, blkC o [.int .i64 8, .string emp, .string emp, .int .i64 0, .int .i64 0] 35])))
  clear A1 HT HRR Hck P1
  by_cases her : R.err = 0
  · have e1 : (R.err == 0) = true := by rw [beq_iff_eq]; exact her
    rw [e1]
    have her := hid her
    clear e1
    have hb := A.out.blk (g := w.heap.size) (vs := [.int .i64 0, .string ⟨#[]⟩, .string ⟨#[]⟩, .int .i64 0, .int .i64 0]) (t := 35) List.mem_cons_self
    have z0 : wz.cell? ⟨w.heap.size, 0, none⟩ = some (.int .i64 0) := by rw [cell_at hb]; rfl
    have zf0 : wz.frozen? ⟨w.heap.size, 0, none⟩ = false := free_at hb 0
    have z1 : wz.cell? ⟨w.heap.size, 1, none⟩ = some (.string ⟨#[]⟩) := by rw [cell_at hb]; rfl
    have zf1 : wz.frozen? ⟨w.heap.size, 1, none⟩ = false := free_at hb 1
    have z2 : wz.cell? ⟨w.heap.size, 2, none⟩ = some (.string ⟨#[]⟩) := by rw [cell_at hb]; rfl
    have zf2 : wz.frozen? ⟨w.heap.size, 2, none⟩ = false := free_at hb 2
    have z3 : wz.cell? ⟨w.heap.size, 3, none⟩ = some (.int .i64 0) := by rw [cell_at hb]; rfl
    have zf3 : wz.frozen? ⟨w.heap.size, 3, none⟩ = false := free_at hb 3
    have z4 : wz.cell? ⟨w.heap.size, 4, none⟩ = some (.int .i64 0) := by rw [cell_at hb]; rfl
    have zf4 : wz.frozen? ⟨w.heap.size, 4, none⟩ = false := free_at hb 4
    clear hb
    have hb := A.out.blk (g := o) (vs := [.int .i64 8, .string emp, .string emp, .int .i64 0, .int .i64 0]) (t := 35) mem4
    have o0 : wz.cell? ⟨o, 0, none⟩ = some (.int .i64 8) := by rw [cell_at hb]; rfl
    have o1 : wz.cell? ⟨o, 1, none⟩ = some (.string emp) := by rw [cell_at hb]; rfl
    have o2 : wz.cell? ⟨o, 2, none⟩ = some (.string emp) := by rw [cell_at hb]; rfl
    have o3 : wz.cell? ⟨o, 3, none⟩ = some (.int .i64 0) := by rw [cell_at hb]; rfl
    have o4 : wz.cell? ⟨o, 4, none⟩ = some (.int .i64 0) := by rw [cell_at hb]; rfl
    clear hb
    have A := hid ((((((A.out.setBlk 0 (.int .i64 8)).setBlk 1 (.string emp)).setBlk 2 (.string emp)).setBlk 3 (.int .i64 0)).setBlk 4 (.int .i64 0)))
    go_wp2
    refine bodyPost_ret (v := opV 8 emp emp 0 0) (res26 (b := w.heap.size) rfl A.out.1.2.1) rfl ?_
    refine ⟨by rw [gotV, if_pos her.out], rv7, ?_⟩
    exact ((A.out.tail).swap.tail).swap.tail
  · have e1 : (R.err == 0) = false := by rw [beq_eq_false_iff_ne]; exact her
    rw [e1]
    have her := hid her
    clear e1
    have hb := A.out.blk (g := w.heap.size) (vs := [.int .i64 0, .string ⟨#[]⟩, .string ⟨#[]⟩, .int .i64 0, .int .i64 0]) (t := 35) List.mem_cons_self
    have z0 : wz.cell? ⟨w.heap.size, 0, none⟩ = some (.int .i64 0) := by rw [cell_at hb]; rfl
    have zf0 : wz.frozen? ⟨w.heap.size, 0, none⟩ = false := free_at hb 0
    have z1 : wz.cell? ⟨w.heap.size, 1, none⟩ = some (.string ⟨#[]⟩) := by rw [cell_at hb]; rfl
    have zf1 : wz.frozen? ⟨w.heap.size, 1, none⟩ = false := free_at hb 1
    have z2 : wz.cell? ⟨w.heap.size, 2, none⟩ = some (.string ⟨#[]⟩) := by rw [cell_at hb]; rfl
    have zf2 : wz.frozen? ⟨w.heap.size, 2, none⟩ = false := free_at hb 2
    have z3 : wz.cell? ⟨w.heap.size, 3, none⟩ = some (.int .i64 0) := by rw [cell_at hb]; rfl
    have zf3 : wz.frozen? ⟨w.heap.size, 3, none⟩ = false := free_at hb 3
    have z4 : wz.cell? ⟨w.heap.size, 4, none⟩ = some (.int .i64 0) := by rw [cell_at hb]; rfl
    have zf4 : wz.frozen? ⟨w.heap.size, 4, none⟩ = false := free_at hb 4
    clear hb
    have A := hid ((((((A.out.setBlk 0 (.int .i64 0)).setBlk 1 (.string emp)).setBlk 2 (.string emp)).setBlk 3 (.int .i64 0)).setBlk 4 (.int .i64 0)))
    go_wp2
    refine bodyPost_ret (v := opV 0 emp emp 0 0) (res26 (b := w.heap.size) rfl A.out.1.2.1) rfl ?_
    refine ⟨by rw [gotV, if_neg her.out], rv7, ?_⟩
    exact ((A.out.tail).swap.tail).swap.tail
end Go.Proofs.YtkcepkehgkkkbaaGreatDoor

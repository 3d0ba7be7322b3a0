import Derived.Test.YtkcepkehgkkkbabGreatDoorJ35
namespace Go.Proofs.YtkcepkehgkkkbabGreatDoor
open Go.RowKit
set_option linter.unusedVariables false

/-- What a reader has left, where it is, whether it is broken. -/
structure Rst where
  rs : List UInt8
  place : Nat
  err : Int
/-- A reader, as a part. -/
def rdC (b : Nat) (D : Option Nat) (rv : Value) (r : Rst) : Comp := ⟨fun w => Rd w b D rv r.rs r.place r.err, b :: D.toList⟩
theorem rdC_good (b : Nat) (D : Option Nat) (rv : Value) (r : Rst) : (rdC b D rv r).Good := fun w w' h hl hk =>
  Rd.kept h hl.size (hk b (by simp [rdC])) (fun k hk' => hk k (by simp [rdC, h.own k hk']))
theorem All.rstep {b : Nat} {D : Option Nat} {rv rv' : Value} {r r' : Rst} {cs : List Comp} {w w' : World} (h : All (rdC b D rv r :: cs) w) (h1 : Rd w' b D rv' r'.rs r'.place r'.err) (h2 : Only b w w') : All (rdC b D rv' r' :: cs) w' := by
  refine h.turn ⟨h2.os, h2.tape, h2.output, h2.size, fun k hk hn => ?_⟩ (rdC_good _ _ _ _) h1 (fun k hk => Or.inl hk) (fun k hk => ?_)
  · simp [rdC] at hn
    exact h2.block k hk hn.1
  · simp [rdC] at hk
    rcases hk with rfl | hk
    · exact h1.lt
    · exact h1.old k hk

/-- Behind a number, a text, a failure. -/
def Rst.aft (r : Rst) (size : Nat) (e : Int) : Rst := ⟨(Go.Proofs.YtkcepkehgkkkbabGreatDoor.aft r.rs r.place r.err size e).1, (Go.Proofs.YtkcepkehgkkkbabGreatDoor.aft r.rs r.place r.err size e).2.1, (Go.Proofs.YtkcepkehgkkkbabGreatDoor.aft r.rs r.place r.err size e).2.2⟩
def Rst.num (r : Rst) (most : Int) : Rst := r.aft (numR r.rs most 13).2.1 (numR r.rs most 13).2.2
def Rst.numV (r : Rst) (most : Int) : Int := (numR r.rs most 13).1
def Rst.txt (r : Rst) (most : Int) : Rst := r.aft (runR r.rs most).2.1 (runR r.rs most).2.2
def Rst.txtV (r : Rst) (most : Int) : ByteArray := strB (runR r.rs most).1
def Rst.fail (r : Rst) (e : Int) : Rst := if e = 0 then r else ⟨[], r.place, keepE r.err e⟩

theorem numRd {b : Nat} {D : Option Nat} {rv : Value} {r : Rst} {cs : List Comp} {w : World} (h : All (rdC b D rv r :: cs) w) (hp : r.place + r.rs.length ≤ 140737488355328) (most : Int) : Calls Tryz.prog 48 #[.pointer (some ⟨b, 0, none⟩), .int .i64 most] w fun e w' => e = .returned (.int .i64 (r.numV most)) ∧ ∃ rv', All (rdC b D rv' (r.num most) :: cs) w' :=
  (Num_any h.1.2.1 hp most).mono fun e w' ⟨h1, ⟨rv', h2⟩, h3⟩ => ⟨h1, rv', h.rstep h2 h3⟩
theorem textRd {b : Nat} {D : Option Nat} {rv : Value} {r : Rst} {cs : List Comp} {w : World} (h : All (rdC b D rv r :: cs) w) (hp : r.place + r.rs.length ≤ 140737488355328) (most : Int) : Calls Tryz.prog 47 #[.pointer (some ⟨b, 0, none⟩), .int .i64 most] w fun e w' => e = .returned (.string (r.txtV most)) ∧ ∃ rv', All (rdC b D rv' (r.txt most) :: cs) w' :=
  (Text_any h.1.2.1 hp most).mono fun e w' ⟨h1, ⟨rv', h2⟩, h3⟩ => ⟨h1, rv', h.rstep h2 h3⟩
set_option maxRecDepth 1000000 in
theorem fail0 {b : Nat} {D : Option Nat} {rv : Value} {rs : List UInt8} {place : Nat} {err : Int} {w : World} (h : Rd w b D rv rs place err) : Calls Tryz.prog 51 #[.pointer (some ⟨b, 0, none⟩), .int .i64 0] w fun e w' => e = .returned (.tuple #[]) ∧ w' = w := by
  have c2 : w.cell? ⟨b, 2, none⟩ = some (.int .i64 err) := by rw [cell_at h.box]; rfl
  clear h
  by_cases hz : err = 0
  · subst hz
    go_enter Tryz.func51, Tryz.ntmps51
    go_wp2
    go_end0
    exact ⟨rfl, rfl⟩
  · have hb1 : (err == 0) = false := by simpa using hz
    go_enter Tryz.func51, Tryz.ntmps51
    go_wp2
    go_end0
    exact ⟨rfl, rfl⟩
theorem failRd {b : Nat} {D : Option Nat} {rv : Value} {r : Rst} {cs : List Comp} {w : World} (h : All (rdC b D rv r :: cs) w) (e0 : Int) : Calls Tryz.prog 51 #[.pointer (some ⟨b, 0, none⟩), .int .i64 e0] w fun e w' => e = .returned (.tuple #[]) ∧ ∃ rv', All (rdC b D rv' (r.fail e0) :: cs) w' := by
  by_cases he : e0 = 0
  · subst he
    refine (fail0 h.1.2.1).mono ?_
    rintro e w' ⟨h1, rfl⟩
    refine ⟨h1, rv, ?_⟩
    rw [Rst.fail, if_pos rfl]
    exact h
  · refine (rfail_any h.1.2.1 e0 he).mono ?_
    rintro e w' ⟨h1, ⟨rv', h2⟩, h3⟩
    refine ⟨h1, rv', h.rstep ?_ h3⟩
    rw [Rst.fail, if_neg he]
    exact h2

end Go.Proofs.YtkcepkehgkkkbabGreatDoor

namespace Go.Proofs.YtkcepkehgkkkbabGreatDoor
set_option linter.unusedVariables false

theorem lim_step (n k most top : Nat) (h : n < (top + 1) * 128 ^ (most - 1 - k)) (hk : k + 1 < most) : n / 128 < (top + 1) * 128 ^ (most - 1 - (k + 1)) := by
  have e : most - 1 - k = (most - 1 - (k + 1)) + 1 := by omega
  rw [e, Nat.pow_succ, ← Nat.mul_assoc] at h
  omega

theorem lim_last (n k most top : Nat) (h : n < (top + 1) * 128 ^ (most - 1 - k)) (hk : k + 1 = most) : n ≤ top := by
  have e : most - 1 - k = 0 := by omega
  rw [e] at h
  simp at h
  omega

theorem split128 (n p : Nat) : n % 128 * p + n / 128 * (p * 128) = n * p := by
  have h : n % 128 + 128 * (n / 128) = n := Nat.mod_add_div n 128
  have e : (n % 128 + 128 * (n / 128)) * p = n * p := by rw [h]
  rw [← e, Nat.add_mul, Nat.mul_comm p 128, ← Nat.mul_assoc, Nat.mul_comm (n / 128) 128]

theorem byte_lo (n : Nat) (h : n < 128) : (UInt8.ofNat n).toNat = n := toNat_small n h

/-- What is written is read. -/
theorem look_enc (most top : Nat) (ht : top < 128) (rest : List UInt8) : ∀ (f k n acc : Nat), k < most → most - 1 - k ≤ f → n < (top + 1) * 128 ^ (most - 1 - k) → (0 < k → 0 < n) →
    look most top k (enc f n ++ rest) acc = (acc + n * 128 ^ k, k + (enc f n).length, 0) := by
  intro f
  induction f with
  | zero =>
    intro k n acc hk hf hn h0
    have hl := lim_last n k most top hn (by omega)
    have hc := byte_lo n (by omega)
    simp only [enc, List.cons_append, List.nil_append, look, hc]
    rw [if_neg (by omega), if_neg (by omega), if_neg (by omega), Nat.mod_eq_of_lt (by omega)]
    simp
  | succ f ih =>
    intro k n acc hk hf hn h0
    by_cases hs : n < 128
    · have hc := byte_lo n hs
      rw [enc_small _ _ hs]
      simp only [List.cons_append, List.nil_append, look, hc]
      have hw : ¬ (k + 1 = most ∧ top < n) := fun ⟨a, b⟩ => by have := lim_last n k most top hn a; omega
      rw [if_neg hw, if_neg (by omega), if_neg (by omega), Nat.mod_eq_of_lt hs]
      simp
    · have hkm : k + 1 < most := by
        by_cases h : k + 1 < most
        · exact h
        · have := lim_last n k most top hn (by omega); omega
      rw [enc_step f n hs]
      simp only [List.cons_append, look, toNat_of128]
      rw [if_neg (by omega), if_pos (by omega)]
      have e : (n % 128 + 128) % 128 = n % 128 := by omega
      rw [e, ih (k + 1) (n / 128) _ hkm (by omega) (lim_step n k most top hn hkm) (by omega)]
      have hp : (128 : Nat) ^ (k + 1) = 128 ^ k * 128 := Nat.pow_succ ..
      have hs := split128 n (128 ^ k)
      rw [hp]
      simp only [List.length_cons, Prod.mk.injEq, and_true]
      omega

/-- A proper beginning is short. -/
theorem look_cut (most top : Nat) (ht : top < 128) : ∀ (f k n acc m : Nat), k < most → most - 1 - k ≤ f → n < (top + 1) * 128 ^ (most - 1 - k) → m < (enc f n).length →
    look most top k ((enc f n).take m) acc = (0, 0, 10) := by
  intro f
  induction f with
  | zero =>
    intro k n acc m hk hf hn hm
    simp [enc] at hm
    subst hm
    simp [look]
  | succ f ih =>
    intro k n acc m hk hf hn hm
    cases m with
    | zero => simp [look]
    | succ m =>
      by_cases hs : n < 128
      · rw [enc_small _ _ hs] at hm; simp at hm
      · have hkm : k + 1 < most := by
          by_cases h : k + 1 < most
          · exact h
          · have := lim_last n k most top hn (by omega); omega
        rw [enc_step f n hs] at hm ⊢
        simp only [List.take_succ_cons, look, toNat_of128]
        rw [if_neg (by omega), if_pos (by omega)]
        exact ih (k + 1) (n / 128) _ m hkm (by omega) (lim_step n k most top hn hkm) (by simpa using hm)

/-- What is read is written as just these bytes. -/
theorem look_inv (most top : Nat) (ht : top < 128) (l : List UInt8) : ∀ (f k acc : Nat), k < most → most - 1 - k ≤ f → (look most top k l acc).2.2 = 0 →
    ∃ n, (look most top k l acc).1 = acc + n * 128 ^ k ∧ (look most top k l acc).2.1 = k + (enc f n).length ∧ l = enc f n ++ l.drop (enc f n).length ∧ (0 < k → 0 < n) ∧ n < (top + 1) * 128 ^ (most - 1 - k) := by
  induction l with
  | nil => intro f k acc hk hf h; simp [look] at h
  | cons c r ih =>
    intro f k acc hk hf
    unfold look
    have hc := c.toNat_lt
    by_cases hA : k + 1 = most ∧ top < c.toNat
    · rw [if_pos hA]; simp
    · rw [if_neg hA]
      by_cases hB : 128 ≤ c.toNat
      · rw [if_pos hB]
        intro h
        have hkm : k + 1 < most := by
          by_cases h : k + 1 < most
          · exact h
          · exact absurd ⟨by omega, by omega⟩ hA
        cases f with
        | zero => omega
        | succ f =>
          obtain ⟨n, h1, h2, h3, h4, h5⟩ := ih f (k + 1) _ hkm (by omega) h
          have h0 := h4 (by omega)
          have hn : ¬ c.toNat % 128 + 128 * n < 128 := by omega
          have e1 : (c.toNat % 128 + 128 * n) % 128 = c.toNat % 128 := by omega
          have e2 : (c.toNat % 128 + 128 * n) / 128 = n := by omega
          have e3 : UInt8.ofNat (c.toNat % 128 + 128) = c := by
            apply UInt8.toNat_inj.1
            rw [toNat_of128]; omega
          have ee : enc (f + 1) (c.toNat % 128 + 128 * n) = c :: enc f n := by rw [enc_step f _ hn, e1, e2, e3]
          refine ⟨c.toNat % 128 + 128 * n, ?_, ?_, ?_, by omega, ?_⟩
          · rw [h1, Nat.pow_succ, Nat.add_mul, Nat.add_assoc, Nat.mul_comm (128 ^ k) 128, ← Nat.mul_assoc, Nat.mul_comm n 128]
          · rw [h2, ee]; simp; omega
          · rw [ee]; simpa using h3
          · have e : most - 1 - k = (most - 1 - (k + 1)) + 1 := by omega
            rw [e, Nat.pow_succ, ← Nat.mul_assoc]
            omega
      · rw [if_neg hB]
        by_cases hC : c.toNat = 0 ∧ 0 < k
        · rw [if_pos hC]; simp
        · rw [if_neg hC]
          intro _
          have e3 : UInt8.ofNat c.toNat = c := by
            apply UInt8.toNat_inj.1
            rw [toNat_small _ (by omega)]
          have ee : enc f c.toNat = [c] := by rw [enc_small f _ (by omega), e3]
          refine ⟨c.toNat, ?_, ?_, ?_, by omega, ?_⟩
          · rw [Nat.mod_eq_of_lt (by omega)]
          · rw [ee]; rfl
          · rw [ee]; rfl
          · by_cases h : k + 1 = most
            · have e : most - 1 - k = 0 := by omega
              rw [e]
              simp
              by_cases h' : top < c.toNat
              · exact absurd ⟨h, h'⟩ hA
              · omega
            · have e : most - 1 - k = (most - 1 - (k + 1)) + 1 := by omega
              rw [e, Nat.pow_succ, ← Nat.mul_assoc]
              have : 1 ≤ (top + 1) * 128 ^ (most - 1 - (k + 1)) := Nat.mul_pos (by omega) (Nat.pow_pos (by omega))
              omega

theorem lim9 : (127 + 1) * 128 ^ (9 - 1 - 0) = 9223372036854775808 := by decide
theorem lim10 : (1 + 1) * 128 ^ (10 - 1 - 0) = 18446744073709551616 := by decide

theorem numR_enc (n : Nat) (hn : n < 9223372036854775808) (rest : List UInt8) (most above : Int) (hm : (n : Int) ≤ most) : numR (enc 9 n ++ rest) most above = ((n : Int), (enc 9 n).length, 0) := by
  have h := look_enc 9 127 (by omega) rest 9 0 n 0 (by omega) (by omega) (by rw [lim9]; exact hn) (by omega)
  unfold numR
  rw [h]
  simp only [Nat.pow_zero, Nat.mul_one, Nat.zero_add, if_true]
  rw [if_neg (by omega)]

theorem numR_cut (n : Nat) (hn : n < 9223372036854775808) (m : Nat) (hm : m < (enc 9 n).length) (most above : Int) : numR ((enc 9 n).take m) most above = (0, 0, 10) := by
  have h := look_cut 9 127 (by omega) 9 0 n 0 m (by omega) (by omega) (by rw [lim9]; exact hn) hm
  unfold numR
  rw [h]
  rfl

theorem unfold_fold (n : Int) : unfoldN (foldN n) = n := by
  unfold unfoldN foldN
  by_cases h : n < 0
  · rw [if_pos h, if_pos (by omega)]; omega
  · rw [if_neg h, if_neg (by omega)]; omega

theorem fold_unfold (n : Nat) : foldN (unfoldN n) = n := by
  unfold unfoldN foldN
  by_cases h : n % 2 = 1
  · rw [if_pos h, if_pos (by omega)]; omega
  · rw [if_neg h, if_neg (by omega)]; omega

theorem runR_enc (l rest : List UInt8) (hl : l.length < 9223372036854775808) (most : Int) (hm : (l.length : Int) ≤ most) : runR (enc 9 l.length ++ (l ++ rest)) most = (l, (enc 9 l.length).length + l.length, 0) := by
  have h := numR_enc l.length hl (l ++ rest) most 14 hm
  unfold runR
  rw [h]
  simp only [if_true]
  rw [if_neg (by simp; omega)]
  simp

theorem runR_cut (l : List UInt8) (hl : l.length < 9223372036854775808) (m : Nat) (hm : m < (enc 9 l.length ++ l).length) (most : Int) (hmost : (l.length : Int) ≤ most) : (runR ((enc 9 l.length ++ l).take m) most).2.2 = 10 ∧ (runR ((enc 9 l.length ++ l).take m) most).1 = [] := by
  by_cases h : m < (enc 9 l.length).length
  · rw [List.take_append_of_le_length (by omega)]
    have e := numR_cut l.length hl m h most 14
    unfold runR
    rw [e]
    simp
  · have e : (enc 9 l.length ++ l).take m = enc 9 l.length ++ l.take (m - (enc 9 l.length).length) := by
      rw [List.take_append, List.take_of_length_le (by omega)]
    rw [e]
    have h' := numR_enc l.length hl (l.take (m - (enc 9 l.length).length)) most 14 hmost
    unfold runR
    rw [h']
    rw [List.length_append] at hm
    simp only [if_true]
    rw [if_pos (by simp; omega)]
    simp

end Go.Proofs.YtkcepkehgkkkbabGreatDoor

namespace Go.Proofs.YtkcepkehgkkkbabGreatDoor
open Go.RowKit
set_option linter.unusedVariables false

abbrev empI : ByteArray := ⟨#[]⟩
def Rst.size (r : Rst) : Nat := r.place + r.rs.length
theorem aft_size (r : Rst) (size : Nat) (e : Int) (h : e = 0 → size ≤ r.rs.length) : (r.aft size e).size ≤ r.size := by
  unfold Rst.aft Rst.size aft
  split
  · rename_i he
    have := h he
    simp only [List.length_drop]
    omega
  · simp only [List.length_nil]; omega
theorem num_size (r : Rst) (m : Int) : (r.num m).size ≤ r.size := aft_size r _ _ (fun _ => numR_size _ _ _)
theorem txt_size (r : Rst) (m : Int) : (r.txt m).size ≤ r.size := aft_size r _ _ (runR_size _ _).1

theorem numR_le (rs : List UInt8) (most above : Int) (hm : 0 ≤ most) : (numR rs most above).1 ≤ most := by
  rw [numR_eq]
  split
  · split
    · simpa using hm
    · simp only; omega
  · simpa using hm

theorem numR_inv (rs : List UInt8) (most above : Int) (h : (numR rs most above).2.2 = 0) (hab : above ≠ 0) : ∃ n : Nat, (numR rs most above).1 = (n : Int) ∧ (n : Int) ≤ most ∧ n < 9223372036854775808 ∧ (numR rs most above).2.1 = (enc 9 n).length ∧ rs = enc 9 n ++ rs.drop (enc 9 n).length := by
  have hb := (look_bound 9 127 (by omega) (by omega) (by omega) rs 0 0 (by omega) (by simp)).2.1 (by omega)
  unfold numR at h ⊢
  by_cases h1 : (look 9 127 0 rs 0).2.2 = 0
  · rw [if_pos h1] at h ⊢
    by_cases h2 : most < ((look 9 127 0 rs 0).1 : Int)
    · rw [if_pos h2] at h
      exact absurd h hab
    · rw [if_neg h2]
      obtain ⟨n, e1, e2, e3, _, _⟩ := look_inv 9 127 (by omega) rs 9 0 0 (by omega) (by omega) h1
      rw [Nat.pow_zero, Nat.mul_one, Nat.zero_add] at e1
      rw [Nat.zero_add] at e2
      exact ⟨n, by simp [e1], by omega, by omega, e2, e3⟩
  · rw [if_neg h1] at h
    exact absurd (by simpa using h) h1

theorem runR_inv (rs : List UInt8) (most : Int) (h : (runR rs most).2.2 = 0) : ((runR rs most).1.length : Int) ≤ most ∧ (runR rs most).2.1 = (enc 9 (runR rs most).1.length ++ (runR rs most).1).length ∧ rs = (enc 9 (runR rs most).1.length ++ (runR rs most).1) ++ rs.drop (enc 9 (runR rs most).1.length ++ (runR rs most).1).length := by
  rw [runR_eq] at h ⊢
  by_cases h1 : (numR rs most 14).2.2 = 0
  · rw [if_pos h1] at h ⊢
    obtain ⟨n, e1, e0, e2, e3, e4⟩ := numR_inv rs most 14 h1 (by omega)
    by_cases h2 : ((rs.length - (numR rs most 14).2.1 : Nat) : Int) < (numR rs most 14).1
    · rw [if_pos h2] at h; simp at h
    · rw [if_neg h2]
      rw [e1, e3] at h2 ⊢
      have hl : ((rs.drop (enc 9 n).length).take n).length = n := by simp; omega
      simp only [Int.toNat_natCast]
      rw [hl, List.length_append, hl]
      refine ⟨e0, rfl, ?_⟩
      rw [List.append_assoc, ← List.drop_drop, List.take_append_drop]
      exact e4
  · rw [if_neg h1] at h
    exact absurd h h1

theorem aft_err (r : Rst) (size : Nat) (e : Int) (h : (r.aft size e).err = 0) : e = 0 ∧ r.err = 0 := by
  unfold Rst.aft aft at h
  by_cases he : e = 0
  · rw [if_pos he] at h
    exact ⟨he, h⟩
  · rw [if_neg he] at h
    simp only [keepE] at h
    split at h
    · exact absurd h he
    · exact absurd h (by assumption)
theorem aft_zero (r : Rst) (size : Nat) : r.aft size 0 = ⟨r.rs.drop size, r.place + size, r.err⟩ := by simp [Rst.aft, aft]

/-- A number that was read whole. -/
theorem num_inv (r : Rst) (m : Int) (h : (r.num m).err = 0) : r.err = 0 ∧ ∃ n : Nat, r.numV m = (n : Int) ∧ (n : Int) ≤ m ∧ n < 9223372036854775808 ∧ r.rs = enc 9 n ++ (r.num m).rs ∧ (r.num m).place = r.place + (enc 9 n).length := by
  obtain ⟨h1, h2⟩ := aft_err r _ _ h
  obtain ⟨n, e1, e0, e2, e3, e4⟩ := numR_inv r.rs m 13 h1 (by omega)
  refine ⟨h2, n, e1, e0, e2, ?_, ?_⟩
  · rw [Rst.num, h1, aft_zero, e3]; exact e4
  · rw [Rst.num, h1, aft_zero, e3]
theorem strB_size (l : List UInt8) : (strB l).size = l.length := by simp [strB, ByteArray.size]
theorem strB_data (l : List UInt8) : (strB l).data.toList = l := by simp [strB]
theorem txt_inv (r : Rst) (m : Int) (h : (r.txt m).err = 0) : r.err = 0 ∧ ((r.txtV m).size : Int) ≤ m ∧ r.rs = txtB (r.txtV m) ++ (r.txt m).rs ∧ (r.txt m).place = r.place + (txtB (r.txtV m)).length := by
  obtain ⟨h1, h2⟩ := aft_err r _ _ h
  obtain ⟨e0, e3, e4⟩ := runR_inv r.rs m h1
  have et : txtB (r.txtV m) = enc 9 (runR r.rs m).1.length ++ (runR r.rs m).1 := by
    unfold txtB Rst.txtV
    rw [strB_size, strB_data]
  refine ⟨h2, ?_, ?_, ?_⟩
  · rw [Rst.txtV, strB_size]; exact e0
  · rw [et, Rst.txt, h1, aft_zero, e3]; exact e4
  · rw [et, Rst.txt, h1, aft_zero, e3]
theorem fail_err (r : Rst) (e : Int) (h : (r.fail e).err = 0) : e = 0 ∧ r.err = 0 ∧ r.fail e = r := by
  unfold Rst.fail at h ⊢
  by_cases he : e = 0
  · rw [if_pos he] at h ⊢
    exact ⟨he, h, rfl⟩
  · rw [if_neg he] at h
    simp only [keepE] at h
    split at h
    · exact absurd h he
    · exact absurd h (by assumption)

/-- Texts that are read one behind the other. -/
def Rst.items (r : Rst) : Nat → List ByteArray × Rst
  | 0 => ([], r)
  | n + 1 => ((r.items n).1 ++ [(r.items n).2.txtV 64], (r.items n).2.txt 64)
theorem items_len (r : Rst) (n : Nat) : (r.items n).1.length = n := by
  induction n with
  | zero => rfl
  | succ n ih => simp [Rst.items, ih]
theorem items_size (r : Rst) (n : Nat) : (r.items n).2.size ≤ r.size := by
  induction n with
  | zero => exact Nat.le_refl _
  | succ n ih => exact Nat.le_trans (txt_size _ _) ih
/-- What GetOp answers. -/
def gotV (R : Rst) (k : Int) (nm tx : ByteArray) (n m : Int) : Value := if R.err = 0 then opV k nm tx n m else opV 0 empI empI 0 0
theorem textsB_snoc (l : List ByteArray) (t : ByteArray) : textsB (l ++ [t]) = textsB l ++ txtB t := by simp [textsB, txtB]
theorem items_inv (r : Rst) (n : Nat) (h : (r.items n).2.err = 0) : r.err = 0 ∧ (∀ t ∈ (r.items n).1, t.size ≤ 64) ∧ r.rs = textsB (r.items n).1 ++ (r.items n).2.rs ∧ (r.items n).2.place = r.place + (textsB (r.items n).1).length := by
  induction n with
  | zero => exact ⟨h, by simp [Rst.items], by simp [Rst.items, textsB], by simp [Rst.items, textsB]⟩
  | succ n ih =>
    have h' : ((r.items n).2.txt 64).err = 0 := h
    obtain ⟨a1, a2, a3, a4⟩ := txt_inv _ 64 h'
    obtain ⟨b1, b2, b3, b4⟩ := ih a1
    refine ⟨b1, ?_, ?_, ?_⟩
    · intro t ht
      rcases List.mem_append.1 ht with ht | ht
      · exact b2 t ht
      · have : t = (r.items n).2.txtV 64 := by simpa using ht
        subst this
        omega
    · rw [b3]
      show _ = textsB ((r.items n).1 ++ [(r.items n).2.txtV 64]) ++ ((r.items n).2.txt 64).rs
      rw [textsB_snoc, List.append_assoc, ← a3]
    · show ((r.items n).2.txt 64).place = r.place + (textsB ((r.items n).1 ++ [(r.items n).2.txtV 64])).length
      rw [a4, b4, textsB_snoc, List.length_append]
      omega
end Go.Proofs.YtkcepkehgkkkbabGreatDoor

import Derived.Test.YthnccpbgccmapabDoorOpen
namespace Go.Proofs.YthnccpbgccmapabDoor
set_option linter.unusedVariables false

/-- Bytes as one number, the first lowest. -/
def valN : List UInt8 → Nat
  | [] => 0
  | c :: l => c.toNat + 256 * valN l

theorem add_xor (c v : Nat) (hc : c < 256) : c + 256 * v = c ^^^ 256 * v := by
  have h := split_low 8 (c + 256 * v)
  have e1 : (c + 256 * v) / 2 ^ 8 = v := by omega
  have e2 : (c + 256 * v) % 2 ^ 8 = c := by omega
  rw [e1, e2, Nat.xor_comm] at h
  exact h

theorem regN_val (l : List UInt8) (r : Nat) : regN r l = stepN (8 * l.length) (r ^^^ valN l) := by
  induction l generalizing r with
  | nil => simp [regN, valN, stepN]
  | cons c l ih =>
    have e : regN r (c :: l) = regN (mixN r c.toNat) l := rfl
    rw [e, ih, List.length_cons, Nat.mul_succ, Nat.add_comm, stepN_add]
    congr 1
    rw [valN, add_xor _ _ c.toNat_lt, ← Nat.xor_assoc, stepN_xor, mixN]
    congr 1
    exact (stepN_pow 8 (valN l)).symm

theorem valN_lt (l : List UInt8) : valN l < 2 ^ (8 * l.length) := by
  induction l with
  | nil => simp [valN]
  | cons c l ih =>
    have := c.toNat_lt
    have e : 2 ^ (8 * (c :: l).length) = 256 * 2 ^ (8 * l.length) := by
      rw [List.length_cons, Nat.mul_succ, Nat.pow_add, Nat.mul_comm]
    rw [e, valN]
    omega

theorem valN_append (a b : List UInt8) : valN (a ++ b) = valN a + 2 ^ (8 * a.length) * valN b := by
  induction a with
  | nil => simp [valN]
  | cons c a ih =>
    have e : 2 ^ (8 * (c :: a).length) = 256 * 2 ^ (8 * a.length) := by
      rw [List.length_cons, Nat.mul_succ, Nat.pow_add, Nat.mul_comm]
    rw [List.cons_append, valN, ih, valN, e, Nat.mul_add, Nat.add_assoc, Nat.mul_assoc]

theorem valN_inj : ∀ {a b : List UInt8}, a.length = b.length → valN a = valN b → a = b
  | [], [], _, _ => rfl
  | c :: a, d :: b, hl, h => by
    have h1 := c.toNat_lt
    have h2 := d.toNat_lt
    simp only [valN] at h
    have hc : c.toNat = d.toNat := by omega
    have hv : valN a = valN b := by omega
    rw [u8_eq hc, valN_inj (by simpa using hl) hv]

theorem valN_sumB (s : Nat) (hs : s < 4294967296) : valN (sumB s) = s := by
  simp only [sumB, valN, byteN_nat]
  omega

/-- A right sum, as the register sees it. -/
theorem isSum_reg {l t : List UInt8} (h : isSum t (sumN l) = true) : regN 4294967295 (l ++ t) = stepN 32 4294967295 := by
  have ht : t = sumB (sumN l) := of_decide_eq_true h
  subst ht
  have hl : 8 * (sumB (sumN l)).length = 32 := rfl
  rw [regN_append, regN_val (sumB _), hl, valN_sumB _ (sumN_lt _), sumN]
  congr 1
  rw [← Nat.xor_assoc, Nat.xor_self, Nat.zero_xor]

theorem xor4 (f v x : Nat) : (f ^^^ (v ^^^ x)) ^^^ (f ^^^ v) = x := by
  apply Nat.eq_of_testBit_eq
  intro i
  simp only [Nat.testBit_xor]
  cases f.testBit i <;> cases x.testBit i <;> cases v.testBit i <;> rfl

/-- What differs within 32 bits has another register. -/
theorem reg_differ {a b : List UInt8} (hl : a.length = b.length) (h : regN 4294967295 a = regN 4294967295 b) (p m : Nat) (hm : m < 4294967296) (hd : valN a = valN b ^^^ 2 ^ p * m) (hp : p ≤ 8 * b.length) : m = 0 := by
  apply Classical.byContradiction
  intro hm0
  have e : regN 4294967295 a ^^^ regN 4294967295 b = stepN (8 * b.length) (2 ^ p * m) := by
    rw [regN_val, regN_val, hl, ← stepN_xor, hd]
    congr 1
    exact xor4 _ _ _
  rw [h, Nat.xor_self] at e
  have e2 : 8 * b.length = p + (8 * b.length - p) := by omega
  rw [e2, stepN_add, stepN_pow] at e
  exact stepN_ne _ hm hm0 e.symm

/-- A datagram's head and the rest of it. -/
theorem sealP_split (p : List UInt8) : sealP p = (leadP p.length ++ sumB (sumN (leadP p.length))) ++ (p ++ sumB (sumN p)) := by simp [sealP]
theorem head_len (n : Nat) : (leadP n ++ sumB (sumN (leadP n))).length = 9 := rfl
theorem isSum_self (l : List UInt8) : isSum (sumB (sumN l)) (sumN l) = true := decide_eq_true rfl

theorem lenP_take (b : List UInt8) (h : 9 ≤ b.length) : lenP (b.take 9) = lenP b := by
  simp only [lenP, List.getD_eq_getElem?_getD, List.getElem?_take]
  rfl

theorem headP_take {b c : List UInt8} (hb : 9 ≤ b.length) (hc : 9 ≤ c.length) (h : b.take 9 = c.take 9) : headP b = headP c := by
  have g : ∀ i, i < 9 → b.getD i 0 = c.getD i 0 := fun i hi => by
    have := congrArg (fun l => l.getD i 0) h
    simpa [List.getD_eq_getElem?_getD, List.getElem?_take, hi] using this
  have e1 : (b.drop 5).take 4 = (c.drop 5).take 4 := by
    have := congrArg (fun l => l.drop 5) h
    simpa [List.drop_take] using this
  have e2 : b.take 5 = c.take 5 := by
    have := congrArg (fun l => l.take 5) h
    simpa [List.take_take] using this
  have e3 : noMark b ↔ noMark c := by
    unfold noMark
    rw [g 0 (by omega), g 1 (by omega)]
    constructor <;> rintro (h | h) <;> first | exact Or.inl ⟨by omega, h.2⟩ | exact Or.inr ⟨by omega, h.2⟩
  have e4 : lenP b = lenP c := by
    unfold lenP
    rw [g 2 (by omega), g 3 (by omega), g 4 (by omega)]
  unfold headP
  rw [e1, e2, e4]
  by_cases hn : noMark c
  · rw [if_pos hn, if_pos (e3.2 hn)]
  · rw [if_neg hn, if_neg (fun h => hn (e3.1 h)), if_neg (show ¬ b.length < 9 by omega), if_neg (show ¬ c.length < 9 by omega)]

theorem lenP_lead (n : Nat) (hn : n ≤ 65536) (r : List UInt8) : lenP (leadP n ++ r) = n := by
  simp only [lenP, leadP, List.cons_append, List.getD_cons_succ, List.getD_cons_zero, byteN_nat]
  omega

theorem headP_seal (p r : List UInt8) (hp : p.length ≤ 65536) : headP ((leadP p.length ++ sumB (sumN (leadP p.length))) ++ r) = (p.length, 0) := by
  have h1 : ¬ noMark ((leadP p.length ++ sumB (sumN (leadP p.length))) ++ r) := by
    rintro (h | h)
    · exact h.2 rfl
    · exact h.2 rfl
  unfold headP
  rw [if_neg h1, if_neg (by simp [leadP_length, sumB_length]; omega), if_neg, if_neg]
  · rw [List.append_assoc, lenP_lead _ hp]
  · rw [List.append_assoc, lenP_lead _ hp]; omega
  · have e1 : ((leadP p.length ++ sumB (sumN (leadP p.length)) ++ r).drop 5).take 4 = sumB (sumN (leadP p.length)) := rfl
    have e2 : (leadP p.length ++ sumB (sumN (leadP p.length)) ++ r).take 5 = leadP p.length := rfl
    rw [e1, e2, isSum_self]
    simp

theorem openP_seal (p : List UInt8) (hp : p.length ≤ 65536) : openP (sealP p) = (p, 0) := by
  have hh : headP (sealP p) = (p.length, 0) := by rw [sealP_split]; exact headP_seal p _ hp
  have hd : (sealP p).drop 9 = p ++ sumB (sumN p) := rfl
  unfold openP
  rw [hh, sealP_length]
  simp only []
  rw [if_neg (by simp), if_neg (by omega), if_neg (by omega), ← List.drop_drop, hd, if_neg]
  · simp
  · rw [List.drop_left, List.take_left, List.take_of_length_le (by rw [sumB_length]; omega), isSum_self]
    simp

/-- Where the head is another, within 32 bits, it is told. -/
theorem head_told {b : List UInt8} {n m q : Nat} (hb : 9 ≤ b.length) (hm : m < 4294967296) (hq : q ≤ 72) (hd : valN (b.take 9) = valN (leadP n ++ sumB (sumN (leadP n))) ^^^ 2 ^ q * m) (h0 : isSum ((b.drop 5).take 4) (sumN (b.take 5)) = true) : m = 0 := by
  have e : b.take 9 = b.take 5 ++ (b.drop 5).take 4 := by
    rw [← List.take_add]
  refine reg_differ (a := b.take 9) (b := leadP n ++ sumB (sumN (leadP n))) (by rw [head_len]; simp; omega) ?_ q m hm hd (by rw [head_len]; omega)
  rw [e, isSum_reg h0, isSum_reg (isSum_self _)]

/-- Where what is behind the head is another, within 32 bits, it is told. -/
theorem body_told {b p : List UInt8} {m q : Nat} (hb : b.length = p.length + 4) (hm : m < 4294967296) (hq : q ≤ 8 * b.length) (hd : valN b = valN (p ++ sumB (sumN p)) ^^^ 2 ^ q * m) (h0 : isSum ((b.drop p.length).take 4) (sumN (b.take p.length)) = true) : m = 0 := by
  have e : b = b.take p.length ++ (b.drop p.length).take 4 := by
    have e3 : (b.drop p.length).take 4 = b.drop p.length := List.take_of_length_le (by simp; omega)
    rw [e3]
    exact (List.take_append_drop _ _).symm
  refine reg_differ (a := b) (b := p ++ sumB (sumN p)) (by simp [sumB_length, hb]) ?_ q m hm hd (by simp [sumB_length]; omega)
  rw [isSum_reg (isSum_self p)]
  rw [e, isSum_reg h0]
end Go.Proofs.YthnccpbgccmapabDoor

import Derived.Test.YthnccpbgccmapabDoorScan
namespace Go.Proofs.YthnccpbgccmapabDoor
set_option linter.unusedVariables false

/-- Bytes, as far as there are four, are the beginning of a sum's. -/
def begB (t : List UInt8) (s : Nat) : Bool := t.take 4 == (sumB s).take t.length

theorem scan_body (x r : List UInt8) (n : Nat) : ∀ (j reg : Nat), j + x.length ≤ n → scan ⟨9 + j, n, reg⟩ (x ++ r) = scan ⟨9 + (j + x.length), n, regN reg x⟩ r := by
  induction x with
  | nil => intro j reg _; rfl
  | cons c x ih =>
    intro j reg h
    simp only [List.length_cons] at h
    have e : takeP ⟨9 + j, n, reg⟩ c = (⟨9 + j + 1, n, mixN reg c.toNat⟩, true) := by
      unfold takeP
      simp only []
      rw [if_neg (by omega), if_neg (by omega), if_neg (by omega), if_pos (by omega)]
    simp only [List.cons_append, scan, e, if_true]
    rw [if_neg (by unfold wholeP; simp only []; omega)]
    have := ih (j + 1) (mixN reg c.toNat) (by omega)
    rw [show 9 + j + 1 = 9 + (j + 1) by omega, this, show j + 1 + x.length = j + (x.length + 1) by omega]
    rfl

theorem scan_tail1 (n reg i : Nat) (hi : i < 4) (c : UInt8) (r : List UInt8) : scan ⟨9 + n + i, n, reg⟩ (c :: r) = if c == byteN (reg ^^^ 4294967295) i then (if i = 3 then .whole n else scan ⟨9 + n + (i + 1), n, reg⟩ r) else .bad := by
  have e : takeP ⟨9 + n + i, n, reg⟩ c = (⟨9 + n + i + 1, n, reg⟩, c == byteN (reg ^^^ 4294967295) i) := by
    unfold takeP
    simp only []
    rw [if_neg (by omega), if_neg (by omega), if_neg (by omega), if_neg (by omega), show 9 + n + i - (9 + n) = i by omega]
  simp only [scan, e]
  split
  · by_cases h3 : i = 3
    · rw [if_pos h3, if_pos (by unfold wholeP; simp only []; omega)]
    · rw [if_neg h3, if_neg (by unfold wholeP; simp only []; omega)]
      rfl
  · rfl

theorem scan_mid1 (n reg i : Nat) (hi : i < 4) (c : UInt8) (r : List UInt8) : scan ⟨5 + i, n, reg⟩ (c :: r) = if c == byteN (reg ^^^ 4294967295) i then scan ⟨5 + (i + 1), n, if i = 3 then 4294967295 else reg⟩ r else .bad := by
  have e : takeP ⟨5 + i, n, reg⟩ c = (⟨5 + i + 1, n, if i = 3 then 4294967295 else reg⟩, c == byteN (reg ^^^ 4294967295) i) := by
    unfold takeP
    simp only []
    rw [if_neg (by omega), if_neg (by omega), if_pos (by omega), show 5 + i - 5 = i by omega]
    by_cases h3 : i = 3
    · rw [if_pos (by omega), if_pos h3]
    · rw [if_neg (by omega), if_neg h3]
  simp only [scan, e]
  split
  · rw [if_neg (by unfold wholeP; simp only []; omega)]
    rfl
  · rfl

theorem sumB_four (s : Nat) : sumB s = [byteN s 0, byteN s 1, byteN s 2, byteN s 3] := rfl

theorem scan_tail (n reg : Nat) (t : List UInt8) : scan ⟨9 + n, n, reg⟩ t = if begB t (reg ^^^ 4294967295) then (if 4 ≤ t.length then .whole n else .more ⟨9 + n + t.length, n, reg⟩) else .bad := by
  unfold begB
  rw [sumB_four]
  match t with
  | [] => rfl
  | [a] =>
    rw [show (⟨9 + n, n, reg⟩ : Lk) = ⟨9 + n + 0, n, reg⟩ from rfl, scan_tail1 n reg 0 (by decide)]
    by_cases ha : a = byteN (reg ^^^ 4294967295) 0 <;> simp [ha, scan]
  | [a, b] =>
    rw [show (⟨9 + n, n, reg⟩ : Lk) = ⟨9 + n + 0, n, reg⟩ from rfl, scan_tail1 n reg 0 (by decide), scan_tail1 n reg (0 + 1) (by decide)]
    by_cases ha : a = byteN (reg ^^^ 4294967295) 0 <;> by_cases hb : b = byteN (reg ^^^ 4294967295) 1 <;> simp [ha, hb, scan]
  | [a, b, c] =>
    rw [show (⟨9 + n, n, reg⟩ : Lk) = ⟨9 + n + 0, n, reg⟩ from rfl, scan_tail1 n reg 0 (by decide), scan_tail1 n reg (0 + 1) (by decide), scan_tail1 n reg (0 + 1 + 1) (by decide)]
    by_cases ha : a = byteN (reg ^^^ 4294967295) 0 <;> by_cases hb : b = byteN (reg ^^^ 4294967295) 1 <;> by_cases hc : c = byteN (reg ^^^ 4294967295) 2 <;> simp [ha, hb, hc, scan]
  | a :: b :: c :: d :: r =>
    rw [show (⟨9 + n, n, reg⟩ : Lk) = ⟨9 + n + 0, n, reg⟩ from rfl, scan_tail1 n reg 0 (by decide), scan_tail1 n reg (0 + 1) (by decide), scan_tail1 n reg (0 + 1 + 1) (by decide), scan_tail1 n reg (0 + 1 + 1 + 1) (by decide)]
    by_cases ha : a = byteN (reg ^^^ 4294967295) 0 <;> by_cases hb : b = byteN (reg ^^^ 4294967295) 1 <;> by_cases hc : c = byteN (reg ^^^ 4294967295) 2 <;> by_cases hd : d = byteN (reg ^^^ 4294967295) 3 <;> simp [ha, hb, hc, hd]

theorem scan_mid (n reg : Nat) (t : List UInt8) : scan ⟨5, n, reg⟩ t = if begB t (reg ^^^ 4294967295) then (if 4 ≤ t.length then scan ⟨9, n, 4294967295⟩ (t.drop 4) else .more ⟨5 + t.length, n, reg⟩) else .bad := by
  unfold begB
  rw [sumB_four]
  match t with
  | [] => rfl
  | [a] =>
    rw [show (⟨5, n, reg⟩ : Lk) = ⟨5 + 0, n, reg⟩ from rfl, scan_mid1 n reg 0 (by decide)]
    by_cases ha : a = byteN (reg ^^^ 4294967295) 0 <;> simp [ha, scan]
  | [a, b] =>
    rw [show (⟨5, n, reg⟩ : Lk) = ⟨5 + 0, n, reg⟩ from rfl, scan_mid1 n reg 0 (by decide), if_neg (show ¬ 0 = 3 by decide), scan_mid1 n reg (0 + 1) (by decide)]
    by_cases ha : a = byteN (reg ^^^ 4294967295) 0 <;> by_cases hb : b = byteN (reg ^^^ 4294967295) 1 <;> simp [ha, hb, scan]
  | [a, b, c] =>
    rw [show (⟨5, n, reg⟩ : Lk) = ⟨5 + 0, n, reg⟩ from rfl, scan_mid1 n reg 0 (by decide), if_neg (show ¬ 0 = 3 by decide), scan_mid1 n reg (0 + 1) (by decide), if_neg (show ¬ 0 + 1 = 3 by decide), scan_mid1 n reg (0 + 1 + 1) (by decide)]
    by_cases ha : a = byteN (reg ^^^ 4294967295) 0 <;> by_cases hb : b = byteN (reg ^^^ 4294967295) 1 <;> by_cases hc : c = byteN (reg ^^^ 4294967295) 2 <;> simp [ha, hb, hc, scan]
  | a :: b :: c :: d :: r =>
    rw [show (⟨5, n, reg⟩ : Lk) = ⟨5 + 0, n, reg⟩ from rfl, scan_mid1 n reg 0 (by decide), if_neg (show ¬ 0 = 3 by decide), scan_mid1 n reg (0 + 1) (by decide), if_neg (show ¬ 0 + 1 = 3 by decide), scan_mid1 n reg (0 + 1 + 1) (by decide), if_neg (show ¬ 0 + 1 + 1 = 3 by decide), scan_mid1 n reg (0 + 1 + 1 + 1) (by decide)]
    by_cases ha : a = byteN (reg ^^^ 4294967295) 0 <;> by_cases hb : b = byteN (reg ^^^ 4294967295) 1 <;> by_cases hc : c = byteN (reg ^^^ 4294967295) 2 <;> by_cases hd : d = byteN (reg ^^^ 4294967295) 3 <;> simp [ha, hb, hc, hd]

theorem scan_lead (a b c d e : UInt8) (r : List UInt8) : scan .init (a :: b :: c :: d :: e :: r) = if a = 70 ∧ b = 76 ∧ c.toNat + d.toNat * 256 + e.toNat * 65536 ≤ 65536 then scan ⟨5, c.toNat + d.toNat * 256 + e.toNat * 65536, regN 4294967295 [a, b, c, d, e]⟩ r else .bad := by
  have hc := c.toNat_lt
  have hd := d.toNat_lt
  have h1 : c.toNat ≤ 65536 := by omega
  have h2 : c.toNat + d.toNat * 256 ≤ 65536 := by omega
  by_cases ha : a = 70 <;> by_cases hb : b = 76 <;> by_cases he : c.toNat + d.toNat * 256 + e.toNat * 65536 ≤ 65536 <;> simp [scan, takeP, wholeP, Lk.init, regN, ha, hb, he, h1, h2]
  all_goals (first | (rw [if_neg (by omega), if_neg (by omega), if_neg (by omega)]) | (rw [if_neg (by omega), if_neg (by omega)]))

/-- What bytes are: as the document has it. -/
inductive Lok where
  | more | bad | whole (n : Nat)
deriving DecidableEq

def lookP (b : List UInt8) : Lok :=
  if noMark b then .bad else if b.length < 5 then .more
  else if 65536 < lenP b ∨ begB (b.drop 5) (sumN (b.take 5)) = false then .bad
  else if b.length ≤ 9 + lenP b then .more
  else if begB (b.drop (9 + lenP b)) (sumN ((b.drop 9).take (lenP b))) = false then .bad
  else if b.length < lenP b + 13 then .more else .whole (lenP b)

def Res.lok : Res → Lok
  | .more _ => .more
  | .bad => .bad
  | .whole n => .whole n

theorem scan_look (b : List UInt8) : (scan .init b).lok = lookP b := by
  match b with
  | [] => rfl
  | [a] =>
    by_cases ha : a = 70 <;> simp [scan, takeP, wholeP, Lk.init, lookP, noMark, Res.lok, ha]
  | [a, b] =>
    by_cases ha : a = 70 <;> by_cases hb : b = 76 <;> simp [scan, takeP, wholeP, Lk.init, lookP, noMark, Res.lok, ha, hb]
  | [a, b, c] =>
    have hc := c.toNat_lt
    have h1 : c.toNat ≤ 65536 := by omega
    by_cases ha : a = 70 <;> by_cases hb : b = 76 <;> simp [scan, takeP, wholeP, Lk.init, lookP, noMark, Res.lok, ha, hb, h1]
    all_goals (rw [if_neg (by omega)])
  | [a, b, c, d] =>
    have hc := c.toNat_lt
    have hd := d.toNat_lt
    have h1 : c.toNat ≤ 65536 := by omega
    have h2 : c.toNat + d.toNat * 256 ≤ 65536 := by omega
    by_cases ha : a = 70 <;> by_cases hb : b = 76 <;> simp [scan, takeP, wholeP, Lk.init, lookP, noMark, Res.lok, ha, hb, h1, h2]
    all_goals (rw [if_neg (by omega), if_neg (by omega)])
  | a :: b :: c :: d :: e :: r =>
    rw [scan_lead]
    have hl : lenP (a :: b :: c :: d :: e :: r) = c.toNat + d.toNat * 256 + e.toNat * 65536 := rfl
    have hm : noMark (a :: b :: c :: d :: e :: r) ↔ ¬ (a = 70 ∧ b = 76) := by
      unfold noMark
      simp only [List.length_cons, List.getD_cons_zero, List.getD_cons_succ]
      constructor
      · rintro (⟨_, h⟩ | ⟨_, h⟩) ⟨h1, h2⟩ <;> contradiction
      · intro h
        by_cases ha : a = 70
        · exact Or.inr ⟨by omega, fun hb => h ⟨ha, hb⟩⟩
        · exact Or.inl ⟨by omega, ha⟩
    unfold lookP
    rw [hl]
    generalize hn : c.toNat + d.toNat * 256 + e.toNat * 65536 = n
    by_cases hab : a = 70 ∧ b = 76
    · rw [if_neg (show ¬ noMark _ from fun h => hm.1 h hab), if_neg (show ¬ (a :: b :: c :: d :: e :: r).length < 5 by simp)]
      by_cases hnn : n ≤ 65536
      · rw [if_pos ⟨hab.1, hab.2, hnn⟩, scan_mid]
        have hs : regN 4294967295 [a, b, c, d, e] ^^^ 4294967295 = sumN ((a :: b :: c :: d :: e :: r).take 5) := rfl
        rw [hs, show (a :: b :: c :: d :: e :: r).drop 5 = r from rfl]
        cases hbg : begB r (sumN ((a :: b :: c :: d :: e :: r).take 5)) with
        | false => rw [if_pos (Or.inr rfl)]; rfl
        | true =>
          rw [if_neg (show ¬ (65536 < n ∨ true = false) by simp; omega), if_pos rfl]
          by_cases h4 : 4 ≤ r.length
          · rw [if_pos h4]
            have h9 : (a :: b :: c :: d :: e :: r).drop 9 = r.drop 4 := rfl
            have h9n : (a :: b :: c :: d :: e :: r).drop (9 + n) = (r.drop 4).drop n := by
              rw [show 9 + n = (n + 4) + 5 by omega]
              simp [Nat.add_comm]
            have hlen : (a :: b :: c :: d :: e :: r).length = (r.drop 4).length + 9 := by simp; omega
            rw [h9, h9n, hlen]
            generalize r.drop 4 = x
            by_cases hx : x.length ≤ n
            · have := scan_body x [] n 0 4294967295 (by omega)
              rw [List.append_nil] at this
              rw [show (⟨9, n, 4294967295⟩ : Lk) = ⟨9 + 0, n, 4294967295⟩ from rfl, this, if_pos (by omega)]
              rfl
            · have hbody := scan_body (x.take n) (x.drop n) n 0 4294967295 (by simp; omega)
              rw [List.take_append_drop] at hbody
              rw [show (⟨9, n, 4294967295⟩ : Lk) = ⟨9 + 0, n, 4294967295⟩ from rfl, hbody, if_neg (by omega)]
              have hlt : (x.take n).length = n := by simp; omega
              rw [hlt, Nat.zero_add, scan_tail, show regN 4294967295 (x.take n) ^^^ 4294967295 = sumN (x.take n) from rfl]
              cases hb2 : begB (x.drop n) (sumN (x.take n)) with
              | false => rw [if_pos rfl]; rfl
              | true =>
                rw [if_pos rfl, if_neg (show ¬ true = false by decide)]
                have hld : (x.drop n).length = x.length - n := by simp
                by_cases h44 : 4 ≤ (x.drop n).length
                · rw [if_pos h44, if_neg (by omega)]; rfl
                · rw [if_neg h44, if_pos (by omega)]; rfl
          · rw [if_neg h4, if_pos (by simp; omega)]; rfl
      · rw [if_neg (fun h => hnn h.2.2), if_pos (Or.inl (by omega))]; rfl
    · rw [if_pos (hm.2 hab), if_neg (fun h => hab ⟨h.1, h.2.1⟩)]; rfl

/-- A byte that is not 46. -/
theorem fin_junk {c : UInt8} (h : c ≠ 70) : fin [c] = ([], 1, []) := by
  have hs : scan .init [c] = .bad := by simp [scan, takeP, Lk.init, h]
  rw [fin_bad hs]
  rfl

theorem begB_self (s : Nat) (r : List UInt8) : begB (sumB s ++ r) s = true := by
  unfold begB
  simp [sumB_four]

theorem scan_seal (p : List UInt8) (hp : p.length ≤ 65536) : scan .init (sealP p) = .whole p.length := by
  have hl : (byteN p.length 0).toNat + (byteN p.length 1).toNat * 256 + (byteN p.length 2).toNat * 65536 = p.length := lenP_lead p.length hp []
  have e : sealP p = 70 :: 76 :: byteN p.length 0 :: byteN p.length 1 :: byteN p.length 2 :: (sumB (sumN (leadP p.length)) ++ (p ++ sumB (sumN p))) := rfl
  rw [e, scan_lead, hl, if_pos ⟨rfl, rfl, hp⟩, scan_mid]
  have hs : regN 4294967295 [70, 76, byteN p.length 0, byteN p.length 1, byteN p.length 2] ^^^ 4294967295 = sumN (leadP p.length) := rfl
  rw [hs, begB_self, if_pos rfl, if_pos (by simp [sumB_four])]
  have h4 : (sumB (sumN (leadP p.length)) ++ (p ++ sumB (sumN p))).drop 4 = p ++ sumB (sumN p) := by simp [sumB_four]
  have hbody := scan_body p (sumB (sumN p)) p.length 0 4294967295 (by omega)
  rw [h4, show (⟨9, p.length, 4294967295⟩ : Lk) = ⟨9 + 0, p.length, 4294967295⟩ from rfl, hbody, Nat.zero_add, scan_tail, show regN 4294967295 p ^^^ 4294967295 = sumN p from rfl]
  have hb := begB_self (sumN p) []
  rw [List.append_nil] at hb
  rw [hb, if_pos rfl, if_pos (by simp [sumB_four])]

theorem fin_seal (p : List UInt8) (hp : p.length ≤ 65536) : fin (sealP p) = ([p], 0, []) := by
  rw [fin_whole (scan_seal p hp)]
  have h1 : (sealP p).drop 9 = p ++ sumB (sumN p) := by rw [sealP_split]; exact List.drop_left' (head_len _)
  have h2 : (sealP p).drop (p.length + 13) = [] := List.drop_eq_nil_of_le (by rw [sealP_length]; exact Nat.le_refl _)
  rw [h1, h2, List.take_left]
  rfl
end Go.Proofs.YthnccpbgccmapabDoor

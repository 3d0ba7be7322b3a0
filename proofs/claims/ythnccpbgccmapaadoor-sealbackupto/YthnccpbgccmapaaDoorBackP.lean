import Derived.Test.YthnccpbgccmapaaDoorTold1
namespace Go.Proofs.YthnccpbgccmapaaDoor
set_option linter.unusedVariables false

theorem seal_mark (l : List UInt8) (k : Nat) (x : List UInt8) : ¬ noMark ((sealP l).take k ++ x) ∨ k < 2 := by
  by_cases hk : k < 2
  · exact Or.inr hk
  · left
    have h0 : ∀ i, i < 2 → ((sealP l).take k ++ x).getD i 0 = (sealP l).getD i 0 := fun i hi => by
      have hl := sealP_length l
      rw [List.getD_eq_getElem?_getD, List.getElem?_append_left (by simp; omega), List.getElem?_take, if_pos (by omega), ← List.getD_eq_getElem?_getD]
    rintro (h | h)
    · exact h.2 (by rw [h0 0 (by omega)]; rfl)
    · exact h.2 (by rw [h0 1 (by omega)]; rfl)

theorem seal_mark_take (l : List UInt8) (k : Nat) : ¬ noMark ((sealP l).take k) := by
  have hl := sealP_length l
  rintro (h | h)
  · have h1 : 0 < k := by have := h.1; simp at this; omega
    apply h.2
    rw [List.getD_eq_getElem?_getD, List.getElem?_take, if_pos h1, ← List.getD_eq_getElem?_getD]
    rfl
  · have h1 : 1 < k := by have := h.1; simp at this; omega
    apply h.2
    rw [List.getD_eq_getElem?_getD, List.getElem?_take, if_pos h1, ← List.getD_eq_getElem?_getD]
    rfl

theorem open_short (l : List UInt8) (hl : l.length ≤ 65536) (k : Nat) (hk : k < l.length + 13) : openP ((sealP l).take k) = ([], 21) := by
  have hlen : ((sealP l).take k).length = k := by rw [List.length_take, sealP_length]; omega
  by_cases h9 : k < 9
  · apply openP_err (e := 21) _ (by decide)
    unfold headP
    rw [if_neg (seal_mark_take l k), if_pos (by omega)]
  · have hh : headP ((sealP l).take k) = (l.length, 0) := by
      have e : headP ((sealP l).take k) = headP (sealP l) := headP_take (by omega) (by rw [sealP_length]; omega) (by rw [List.take_take]; congr 1; omega)
      rw [e, sealP_split]
      exact headP_seal l _ hl
    unfold openP
    rw [hh]
    simp only []
    rw [if_neg (by simp), if_pos (by omega)]

theorem open_more (l x : List UInt8) (hl : l.length ≤ 65536) (hx : x ≠ []) : openP (sealP l ++ x) = ([], 23) := by
  have hx0 : 0 < x.length := List.length_pos_iff.2 hx
  have hh : headP (sealP l ++ x) = (l.length, 0) := by
    rw [sealP_split, List.append_assoc]
    exact headP_seal l _ hl
  unfold openP
  rw [hh]
  simp only []
  rw [if_neg (by simp), if_neg (by rw [List.length_append, sealP_length]; omega), if_pos (by rw [List.length_append, sealP_length]; omega)]

theorem headP_ok {b : List UInt8} {n : Nat} (h : headP b = (n, 0)) : ¬ noMark b ∧ 9 ≤ b.length ∧ isSum ((b.drop 5).take 4) (sumN (b.take 5)) = true ∧ n = lenP b ∧ n ≤ 65536 := by
  unfold headP at h
  split at h
  · simp at h
  · split at h
    · simp at h
    · split at h
      · simp at h
      · split at h
        · simp at h
        · simp at h
          exact ⟨by assumption, by omega, by simpa using ‹¬ isSum _ _ = false›, h.symm, by omega⟩

theorem five (b : List UInt8) (h : 5 ≤ b.length) : b.take 5 = [b.getD 0 0, b.getD 1 0, b.getD 2 0, b.getD 3 0, b.getD 4 0] := by
  match b, h with
  | a :: b :: c :: d :: e :: r, _ => rfl

theorem lead_of {b : List UInt8} (hm : ¬ noMark b) (h : 9 ≤ b.length) : b.take 5 = leadP (lenP b) := by
  have h0 : b.getD 0 0 = 70 := Classical.byContradiction fun e => hm (Or.inl ⟨by omega, e⟩)
  have h1 : b.getD 1 0 = 76 := Classical.byContradiction fun e => hm (Or.inr ⟨by omega, e⟩)
  have l2 := (b.getD 2 0).toNat_lt
  have l3 := (b.getD 3 0).toNat_lt
  have l4 := (b.getD 4 0).toNat_lt
  rw [five b (by omega), h0, h1]
  unfold leadP
  have e2 : b.getD 2 0 = byteN (lenP b) 0 := u8_eq (by rw [byteN_nat, lenP]; omega)
  have e3 : b.getD 3 0 = byteN (lenP b) 1 := u8_eq (by rw [byteN_nat, lenP]; omega)
  have e4 : b.getD 4 0 = byteN (lenP b) 2 := u8_eq (by rw [byteN_nat, lenP]; omega)
  rw [← e2, ← e3, ← e4]

theorem open_seal {b : List UInt8} (h : (openP b).2 = 0) : sealA (openP b).1 = (b, 0) := by
  have hh : (headP b).2 = 0 := Classical.byContradiction fun e => by
    have : openP b = ([], (headP b).2) := openP_err rfl e
    rw [this] at h
    exact e h
  obtain ⟨n, hn⟩ : ∃ n, headP b = (n, 0) := ⟨(headP b).1, by rw [← hh]⟩
  obtain ⟨hm, h9, hs, hl, hle⟩ := headP_ok hn
  unfold openP at h
  rw [hn] at h
  simp only [] at h
  rw [if_neg (by simp)] at h
  by_cases h1 : b.length < n + 13
  · rw [if_pos h1] at h; simp at h
  · rw [if_neg h1] at h
    by_cases h2 : n + 13 < b.length
    · rw [if_pos h2] at h; simp at h
    · rw [if_neg h2] at h
      by_cases h3 : isSum ((b.drop (9 + n)).take 4) (sumN ((b.drop 9).take n)) = false
      · rw [if_pos h3] at h; simp at h
      · have hop : openP b = ((b.drop 9).take n, 0) := by
          unfold openP
          rw [hn]
          simp only []
          rw [if_neg (by simp), if_neg h1, if_neg h2, if_neg h3]
        have hpl : ((b.drop 9).take n).length = n := by simp; omega
        rw [hop]
        unfold sealA
        simp only []
        rw [if_neg (by rw [hpl]; omega)]
        congr 1
        unfold sealP
        have e1 : (b.drop 5).take 4 = sumB (sumN (b.take 5)) := of_decide_eq_true hs
        have h3' : isSum ((b.drop (9 + n)).take 4) (sumN ((b.drop 9).take n)) = true := by simpa using h3
        have e2 : (b.drop (9 + n)).take 4 = sumB (sumN ((b.drop 9).take n)) := of_decide_eq_true h3'
        rw [hpl, hl, ← lead_of hm h9, ← e1, ← hl, ← e2, List.take_of_length_le (l := b.drop (9 + n)) (by simp; omega), ← List.drop_drop, List.take_append_drop]
        have e3 : b.drop 9 = (b.drop 5).drop 4 := by rw [List.drop_drop]
        rw [e3, List.take_append_drop, List.take_append_drop]
end Go.Proofs.YthnccpbgccmapaaDoor

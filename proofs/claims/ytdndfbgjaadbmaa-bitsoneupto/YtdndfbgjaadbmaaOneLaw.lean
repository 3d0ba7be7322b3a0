import Derived.Test.YtdndfbgjaadbmaaWeird
import Derived.Test.YtdndfbgjaadbmaaBackLaw
namespace Go.Proofs.Ytdndfbgjaadbmaa
open Go.RowKit
set_option linter.unusedVariables false

theorem numR_inv (rs : List UInt8) (above : Int) (h : (numR rs 9223372036854775807 above).2.2 = 0) (hab : above ≠ 0) : ∃ n : Nat, (numR rs 9223372036854775807 above).1 = (n : Int) ∧ n < 9223372036854775808 ∧ (numR rs 9223372036854775807 above).2.1 = (enc 9 n).length ∧ rs = enc 9 n ++ rs.drop (enc 9 n).length := by
  have hb := (look_bound 9 127 (by omega) (by omega) (by omega) rs 0 0 (by omega) (by simp)).2.1 (by omega)
  unfold numR at h ⊢
  by_cases h1 : (look 9 127 0 rs 0).2.2 = 0
  · rw [if_pos h1] at h ⊢
    rw [if_neg (by omega)]
    obtain ⟨n, e1, e2, e3, _, _⟩ := look_inv 9 127 (by omega) rs 9 0 0 (by omega) (by omega) h1
    rw [Nat.pow_zero, Nat.mul_one, Nat.zero_add] at e1
    rw [Nat.zero_add] at e2
    exact ⟨n, by simp [e1], by omega, e2, e3⟩
  · rw [if_neg h1] at h
    exact absurd (by simpa using h) h1

theorem signedR_inv (rs : List UInt8) (h : (signedR rs).2.2 = 0) : ∃ n : Int, (signedR rs).1 = n ∧ (-9223372036854775808 ≤ n ∧ n < 9223372036854775808) ∧ (signedR rs).2.1 = (enc 9 (foldN n)).length ∧ rs = enc 9 (foldN n) ++ rs.drop (enc 9 (foldN n)).length := by
  have hb := (look_bound 10 1 (by omega) (by omega) (by omega) rs 0 0 (by omega) (by simp)).1
  have h1 : (look 10 1 0 rs 0).2.2 = 0 := by unfold signedR at h; simpa using h
  obtain ⟨n, e1, e2, e3, _, _⟩ := look_inv 10 1 (by omega) rs 9 0 0 (by omega) (by omega) h1
  rw [Nat.pow_zero, Nat.mul_one, Nat.zero_add] at e1
  rw [Nat.zero_add] at e2
  refine ⟨unfoldN n, by simp [signedR, e1], ?_, ?_, ?_⟩
  · rw [e1] at hb
    unfold unfoldN
    split <;> omega
  · rw [fold_unfold]; simpa [signedR] using e2
  · rw [fold_unfold]; exact e3

theorem truthR_inv (rs : List UInt8) (h : (truthR rs).2.2 = 0) : (truthR rs).2.1 = 1 ∧ rs = [if (truthR rs).1 then 1 else 0] ++ rs.drop 1 := by
  cases rs with
  | nil => simp [truthR] at h
  | cons c r =>
    unfold truthR at h ⊢
    by_cases h1 : 1 < c.toNat
    · simp [h1] at h
    · simp only [h1, if_false]
      refine ⟨trivial, ?_⟩
      have hc : c = 0 ∨ c = 1 := by
        rcases (show c.toNat = 0 ∨ c.toNat = 1 by omega) with e | e
        · left; exact UInt8.toNat_inj.1 e
        · right; exact UInt8.toNat_inj.1 e
      rcases hc with rfl | rfl <;> simp

theorem runR_inv (rs : List UInt8) (h : (runR rs 9223372036854775807).2.2 = 0) : (runR rs 9223372036854775807).2.1 = (enc 9 (runR rs 9223372036854775807).1.length ++ (runR rs 9223372036854775807).1).length ∧ rs = (enc 9 (runR rs 9223372036854775807).1.length ++ (runR rs 9223372036854775807).1) ++ rs.drop (enc 9 (runR rs 9223372036854775807).1.length ++ (runR rs 9223372036854775807).1).length := by
  rw [runR_eq] at h ⊢
  by_cases h1 : (numR rs 9223372036854775807 14).2.2 = 0
  · rw [if_pos h1] at h ⊢
    obtain ⟨n, e1, e2, e3, e4⟩ := numR_inv rs 14 h1 (by omega)
    by_cases h2 : ((rs.length - (numR rs 9223372036854775807 14).2.1 : Nat) : Int) < (numR rs 9223372036854775807 14).1
    · rw [if_pos h2] at h; simp at h
    · rw [if_neg h2]
      rw [e1, e3] at h2 ⊢
      have hl : ((rs.drop (enc 9 n).length).take n).length = n := by simp; omega
      simp only [Int.toNat_natCast]
      rw [hl, List.length_append, hl]
      refine ⟨rfl, ?_⟩
      rw [List.append_assoc, ← List.drop_drop, List.take_append_drop]
      exact e4
  · rw [if_neg h1] at h
    exact absurd h h1

theorem runR_none (rs : List UInt8) (h : (runR rs 9223372036854775807).2.2 ≠ 0) : (runR rs 9223372036854775807).1 = [] := by
  rw [runR_eq] at h ⊢
  by_cases h1 : (numR rs 9223372036854775807 14).2.2 = 0
  · rw [if_pos h1] at h ⊢
    by_cases h2 : ((rs.length - (numR rs 9223372036854775807 14).2.1 : Nat) : Int) < (numR rs 9223372036854775807 14).1
    · rw [if_pos h2]
    · rw [if_neg h2] at h; exact absurd rfl h
  · rw [if_neg h1]

/-- An item that was read by its kind. -/
theorem gotR_inv (kind : Int) (hk : 1 ≤ kind ∧ kind ≤ 5) (rs : List UInt8) (hl : rs.length ≤ 1099511627776) :
    (gotR kind rs).1.Ok ∧ (gotR kind rs).1.kind = kind ∧ (kind = 1 → 0 ≤ (gotR kind rs).1.n) ∧ ((gotR kind rs).2.2 = 0 → (gotR kind rs).2.1 = (encI (gotR kind rs).1).length ∧ rs = encI (gotR kind rs).1 ++ rs.drop (gotR kind rs).2.1) ∧ ((gotR kind rs).2.2 ≠ 0 → (gotR kind rs).1.s.size = 0) ∧ (gotR kind rs).1.s.size ≤ rs.length := by
  rcases (show kind = 1 ∨ kind = 2 ∨ kind = 3 ∨ kind = 4 ∨ kind = 5 by omega) with rfl | rfl | rfl | rfl | rfl
  · have hv := numR_val rs 9223372036854775807 13
    have e : gotR 1 rs = (⟨1, (numR rs 9223372036854775807 13).1, false, ⟨#[]⟩⟩, (numR rs 9223372036854775807 13).2) := rfl
    rw [e]
    refine ⟨⟨⟨by simp, by simp⟩, by simp only; omega, hv.2.1⟩, rfl, fun _ => hv.1, ?_, fun _ => rfl, by show 0 ≤ _; omega⟩
    intro h
    obtain ⟨n, e1, e2, e3, e4⟩ := numR_inv rs 13 h (by omega)
    have e5 : encI ⟨1, (numR rs 9223372036854775807 13).1, false, ⟨#[]⟩⟩ = enc 9 n := by
      show enc 9 (numR rs 9223372036854775807 13).1.toNat = _
      rw [e1]; rfl
    simp only [e5, e3]
    exact ⟨trivial, e4⟩
  · have e : gotR 2 rs = (⟨2, (signedR rs).1, false, ⟨#[]⟩⟩, (signedR rs).2) := rfl
    rw [e]
    have hb := (look_bound 10 1 (by omega) (by omega) (by omega) rs 0 0 (by omega) (by simp)).1
    have hr : -9223372036854775808 ≤ (signedR rs).1 ∧ (signedR rs).1 < 9223372036854775808 := by
      unfold signedR unfoldN
      simp only
      split <;> omega
    refine ⟨⟨⟨by simp, by simp⟩, hr⟩, rfl, by simp, ?_, fun _ => rfl, by show 0 ≤ _; omega⟩
    intro h
    obtain ⟨n, e1, e2, e3, e4⟩ := signedR_inv rs h
    have e5 : encI ⟨2, (signedR rs).1, false, ⟨#[]⟩⟩ = enc 9 (foldN n) := by
      show enc 9 (foldN (signedR rs).1) = _
      rw [e1]
    simp only [e5, e3]
    exact ⟨trivial, e4⟩
  · have e : gotR 3 rs = (⟨3, 0, (truthR rs).1, ⟨#[]⟩⟩, (truthR rs).2) := rfl
    rw [e]
    refine ⟨⟨⟨by simp, by simp⟩, by simp, by simp⟩, rfl, by simp, ?_, fun _ => rfl, by show 0 ≤ _; omega⟩
    intro h
    obtain ⟨e3, e4⟩ := truthR_inv rs h
    have e5 : encI ⟨3, 0, (truthR rs).1, ⟨#[]⟩⟩ = [if (truthR rs).1 then 1 else 0] := rfl
    simp only [e5, e3]
    exact ⟨rfl, e4⟩
  · have e : gotR 4 rs = (⟨4, 0, false, strB (runR rs 9223372036854775807).1⟩, (runR rs 9223372036854775807).2) := rfl
    rw [e]
    have hs := (runR_size rs 9223372036854775807).2
    have es : (strB (runR rs 9223372036854775807).1).size = (runR rs 9223372036854775807).1.length := by simp [strB, ByteArray.size]
    have ed : (strB (runR rs 9223372036854775807).1).data.toList = (runR rs 9223372036854775807).1 := by simp [strB]
    refine ⟨⟨⟨by simp, by simp⟩, by simp, by simp⟩, rfl, by simp, ?_, ?_, by simp only [es]; exact hs⟩
    · intro h
      obtain ⟨e3, e4⟩ := runR_inv rs h
      have e5 : encI ⟨4, 0, false, strB (runR rs 9223372036854775807).1⟩ = enc 9 (runR rs 9223372036854775807).1.length ++ (runR rs 9223372036854775807).1 := by
        show enc 9 (strB _).size ++ (strB _).data.toList = _
        rw [es, ed]
      simp only [e5, e3]
      exact ⟨trivial, e4⟩
    · intro h
      simp only [es]
      rw [runR_none rs h]
      rfl
  · have e : gotR 5 rs = (⟨5, 0, false, strB (runR rs 9223372036854775807).1⟩, (runR rs 9223372036854775807).2) := rfl
    rw [e]
    have hs := (runR_size rs 9223372036854775807).2
    have es : (strB (runR rs 9223372036854775807).1).size = (runR rs 9223372036854775807).1.length := by simp [strB, ByteArray.size]
    have ed : (strB (runR rs 9223372036854775807).1).data.toList = (runR rs 9223372036854775807).1 := by simp [strB]
    refine ⟨⟨⟨by simp, by simp⟩, by simp, by simp⟩, rfl, by simp, ?_, ?_, by simp only [es]; exact hs⟩
    · intro h
      obtain ⟨e3, e4⟩ := runR_inv rs h
      have e5 : encI ⟨5, 0, false, strB (runR rs 9223372036854775807).1⟩ = enc 9 (runR rs 9223372036854775807).1.length ++ (runR rs 9223372036854775807).1 := by
        show enc 9 (strB _).size ++ (strB _).data.toList = _
        rw [es, ed]
      simp only [e5, e3]
      exact ⟨trivial, e4⟩
    · intro h
      simp only [es]
      rw [runR_none rs h]
      rfl

end Go.Proofs.Ytdndfbgjaadbmaa

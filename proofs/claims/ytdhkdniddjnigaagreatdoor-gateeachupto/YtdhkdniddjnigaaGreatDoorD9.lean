import Derived.Test.YtdhkdniddjnigaaGreatDoorD8
namespace Go.Proofs.YtdhkdniddjnigaaGreatDoor
open Go.RowKit
set_option linter.unusedVariables false

theorem readO_eq {k : Nat} {x : List UInt8} {ws : Ws} (hk : kindW x = some k) : readO (x :: ws) = if (x :: ws).length < 1 + (ltN k).length then .bad 162 else match goO (ltN k) ws ⟨(k : Int), [], [], 0, 0⟩ with
    | none => .bad 163
    | some o => if chkR8 o ≠ 0 then .bad (chkR8 o) else ⟨o, 1 + (ltN k).length, 0⟩ := by
  unfold readO
  rw [if_neg (by simp)]
  have e : (x :: ws).getD 0 [] = x := rfl
  rw [e, hk]
  rfl
theorem goO_back {k n m : Nat} {nm tx : List UInt8} {b : Ws} (hk1 : 1 ≤ k) (hk8 : k ≤ 8) (hn : n ≤ 1099511627776) (hm : m ≤ 1099511627776)
    (h1 : 78 ∉ ltN k → nm = []) (h2 : 84 ∉ ltN k → tx = []) (h3 : 75 ∉ ltN k → n = 0) (h4 : 77 ∉ ltN k → m = 0) : goO (ltN k) (flds nm tx n m (ltN k) ++ b) ⟨(k : Int), [], [], 0, 0⟩ = some ⟨(k : Int), nm, tx, n, m⟩ := by
  have qn := numW_digits (v := n) (by omega)
  have qm := numW_digits (v := m) (by omega)
  obtain rfl | rfl | rfl | rfl | rfl | rfl | rfl | rfl : k = 1 ∨ k = 2 ∨ k = 3 ∨ k = 4 ∨ k = 5 ∨ k = 6 ∨ k = 7 ∨ k = 8 := by omega
  all_goals
    simp only [ltN, wfN, List.getD_cons_succ, List.getD_cons_zero, List.mem_cons, List.not_mem_nil, or_false] at h1 h2 h3 h4 ⊢
    first | (have g1 := h1 (by decide)) | skip
    first | (have g2 := h2 (by decide)) | skip
    first | (have g3 := h3 (by decide)) | skip
    first | (have g4 := h4 (by decide)) | skip
    clear h1 h2 h3 h4
    simp_all [goO, flds, fieldW, okO, setO]
theorem readO_back {k n m : Int} {nm tx : List UInt8} {b : Ws} (h : chkO k nm tx n m = 0) : readO (opA k nm tx n m ++ b) = ⟨⟨k, nm, tx, n.toNat, m.toNat⟩, (opA k nm tx n m).length, 0⟩ := by
  obtain ⟨hk1, hk8, hn0, hn1, hm0, hm1, _, _, z1, z2, z3, z4⟩ := chkO_zero h
  obtain ⟨k, rfl⟩ := Int.eq_ofNat_of_zero_le (show 0 ≤ k by omega)
  obtain ⟨n, rfl⟩ := Int.eq_ofNat_of_zero_le hn0
  obtain ⟨m, rfl⟩ := Int.eq_ofNat_of_zero_le hm0
  have e0 : opA (k : Int) nm tx (n : Int) (m : Int) = nmN k :: flds nm tx n m (ltN k) := by
    unfold opA
    rw [h, if_neg (by simp)]
    simp only [Int.toNat_natCast]
    rfl
  simp only [Int.toNat_natCast] at z1 z2 z3 z4 ⊢
  have hk : kindW (nmN k) = some k := by
    obtain rfl | rfl | rfl | rfl | rfl | rfl | rfl | rfl : k = 1 ∨ k = 2 ∨ k = 3 ∨ k = 4 ∨ k = 5 ∨ k = 6 ∨ k = 7 ∨ k = 8 := by omega
    all_goals rfl
  rw [e0, List.cons_append, readO_eq hk, if_neg (by simp [flds]; omega), goO_back (by omega) (by omega) (by omega) (by omega) z1 z2 (fun h => by have := z3 h; omega) (fun h => by have := z4 h; omega)]
  have hc : chkR8 ⟨(k : Int), nm, tx, n, m⟩ = 0 := h
  simp only
  rw [hc, if_neg (by simp)]
  simp [flds]
  omega
theorem opA_len (k n m : Int) (nm tx : List UInt8) : (opA k nm tx n m).length ≤ 4 := by
  unfold opA
  split
  · simp
  · have := ltN_len k.toNat
    simp [opW, flds]
    omega
theorem dig_len : ∀ n : Nat, (Lib.decDigits n).length ≤ n + 1 := by
  intro n
  induction n using Nat.strongRecOn with
  | _ n ih =>
    rw [Lib.decDigits]
    split
    · simp
    · have := ih (n / 10) (by omega)
      simp only [List.length_append, List.length_cons, List.length_nil]
      omega
theorem nmN_len (k : Nat) : (nmN k).length ≤ 5 := by
  have key : ∀ p ∈ wfN, p.1.length ≤ 5 := by decide
  unfold nmN
  by_cases hk : k < wfN.length
  · rw [List.getD, List.getElem?_eq_getElem hk]
    exact key _ (List.getElem_mem hk)
  · rw [List.getD, List.getElem?_eq_none (by omega)]
    simp
theorem opA_mem {k n m : Int} {nm tx : List UInt8} {x : List UInt8} (hx : x ∈ opA k nm tx n m) : x.length ≤ 140737488355328 := by
  unfold opA at hx
  split at hx
  · simp at hx
  · rename_i h
    obtain ⟨hk1, hk8, hn0, hn1, hm0, hm1, l1, l2, _⟩ := chkO_zero (Classical.byContradiction h)
    unfold opW at hx
    rcases List.mem_cons.1 hx with rfl | hx
    · have := nmN_len k.toNat
      omega
    · obtain ⟨c, _, rfl⟩ := List.mem_map.1 hx
      have d1 := dig_len n.toNat
      have d2 := dig_len m.toNat
      unfold fieldW
      split
      · omega
      · split
        · omega
        · split <;> omega
end Go.Proofs.YtdhkdniddjnigaaGreatDoor

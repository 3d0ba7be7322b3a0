import Derived.Test.YtblojlaifnmimaaGreatDoorRa
namespace Go.Proofs.YtblojlaifnmimaaGreatDoor
open Go.RowKit
set_option linter.unusedVariables false

theorem passW_at : ∀ {l : List UInt8} {k : Nat}, k < l.length → (∀ j, j < k → l.getD j 0 = 32 ∨ l.getD j 0 = 9) → l.getD k 0 ≠ 32 → l.getD k 0 ≠ 9 → passW l = decide (l.getD k 0 = 35)
  | [], k, hk, _, _, _ => by simp at hk
  | b :: r, 0, _, _, h1, h2 => by
    have h1 : b ≠ 32 := by simpa using h1
    have h2 : b ≠ 9 := by simpa using h2
    rw [passW, if_neg (by rintro (h | h) <;> contradiction)]
    simp
  | b :: r, k + 1, hk, hj, h1, h2 => by
    have h0 : b = 32 ∨ b = 9 := by simpa using hj 0 (by omega)
    rw [passW, if_pos h0, passW_at (k := k) (by simpa using hk) (fun j hj' => by simpa using hj (j + 1) (by omega)) (by simpa using h1) (by simpa using h2)]
    simp
theorem passW_all : ∀ {l : List UInt8}, (∀ j, j < l.length → l.getD j 0 = 32 ∨ l.getD j 0 = 9) → passW l = true
  | [], _ => rfl
  | b :: r, hj => by
    have h0 : b = 32 ∨ b = 9 := by simpa using hj 0 (by simp)
    rw [passW, if_pos h0]
    exact passW_all (fun j hj' => by simpa using hj (j + 1) (by simpa using hj'))

set_option maxHeartbeats 1600000 in
set_option maxRecDepth 1000000 in
/-- The document's passed. -/
theorem rpassed_any {l : List UInt8} {w : World} (hl : l.length ≤ 140737488355328) : Calls Tryz.prog 19 #[.string ⟨l.toArray⟩] w fun e w' => e = .returned (.bool (passW l)) ∧ w' = w := by
  have hz : (⟨l.toArray⟩ : ByteArray).size = l.length := by simp [ByteArray.size]
  have IX : Hid (∀ k, k < l.length → ∀ W, (Instr.index 9 (.string ⟨l.toArray⟩) (.int .i64 (k : Int))).run Tryz.prog W = .ok (.int .u8 ((l.getD k 0).toNat : Int)) W) := hid (fun k hk W => idx_at hk W)
  have F1 : Hid (∀ k, k < l.length → (∀ j, j < k → l.getD j 0 = 32 ∨ l.getD j 0 = 9) → l.getD k 0 ≠ 32 → l.getD k 0 ≠ 9 → passW l = decide (l.getD k 0 = 35)) := hid (fun k => passW_at)
  have F2 : Hid ((∀ j, j < l.length → l.getD j 0 = 32 ∨ l.getD j 0 = 9) → passW l = true) := hid passW_all
  generalize passW l = PW at *
  generalize hX : ByteArray.mk l.toArray = X at *
  clear hX
  generalize hn : l.length = n at *
  clear hn
  go_enter Tryz.func19, Tryz.ntmps19
  go_wp2
  go_loopw [3] (fun iv wr => ∃ k : Nat, k ≤ n ∧ iv = .int .i64 (k : Int) ∧ Hid (∀ j, j < k → l.getD j 0 = 32 ∨ l.getD j 0 = 9) ∧ wr = w) (fun iv _ => n - (intOf iv).toNat)
  case atStart => exact ⟨0, by omega, rfl, hid (fun j hj => by omega), rfl⟩
  case round =>
    obtain ⟨k, hk, rfl, hj, rfl⟩ := hrel
    by_cases hlt : k < n
    · have hlt' : (k : Int) < (n : Int) := by omega
      have ix := IX.out k hlt
      generalize hb : l.getD k 0 = b at ix
      have HB := hid hb
      clear hb
      by_cases h32 : b.toNat = 32
      · have bi : (b.toNat : Int) = 32 := by omega
        rw [bi] at ix
        have nx : Hid (∀ j, j < k + 1 → l.getD j 0 = 32 ∨ l.getD j 0 = 9) := hid (fun j hj' => by
          by_cases hjk : j < k
          · exact hj.out j hjk
          · have : j = k := by omega
            subst this
            rw [HB.out]
            exact Or.inl (UInt8.toNat_inj.1 h32))
        clear h32 bi
        go_wp2
        go_roundw
        case rel => exact ⟨k + 1, by omega, by go_num, nx, trivial⟩
        case measure => simp [intOf]; omega
      · have b32 : ((b.toNat : Int) != 32) = true := by simp; omega
        by_cases h9 : b.toNat = 9
        · have bi : (b.toNat : Int) = 9 := by omega
          rw [bi] at ix
          have nx : Hid (∀ j, j < k + 1 → l.getD j 0 = 32 ∨ l.getD j 0 = 9) := hid (fun j hj' => by
            by_cases hjk : j < k
            · exact hj.out j hjk
            · have : j = k := by omega
              subst this
              rw [HB.out]
              exact Or.inr (UInt8.toNat_inj.1 h9))
          clear h32 h9 bi b32
          go_wp2
          go_roundw
          case rel => exact ⟨k + 1, by omega, by go_num, nx, trivial⟩
          case measure => simp [intOf]; omega
        · have b9 : ((b.toNat : Int) != 9) = true := by simp; omega
          have fin : Hid (PW = ((b.toNat : Int) == 35)) := hid (by
            rw [F1.out k hlt hj.out (by rw [HB.out]; intro e; exact h32 (by rw [e]; rfl)) (by rw [HB.out]; intro e; exact h9 (by rw [e]; rfl)), HB.out]
            rw [Bool.eq_iff_iff, decide_eq_true_eq, beq_iff_eq]
            constructor
            · intro e; rw [e]; rfl
            · intro e; exact UInt8.toNat_inj.1 (by simpa using Int.ofNat.inj e))
          clear h32 h9
          go_wp2
          go_ret
          exact ⟨by rw [fin.out]; rfl, rfl⟩
    · have hlt' : ¬ (k : Int) < (n : Int) := by omega
      have fin : Hid (PW = true) := hid (F2.out (fun j hj' => hj.out j (by omega)))
      go_wp2
      go_ret
      exact ⟨by rw [fin.out]; rfl, rfl⟩
end Go.Proofs.YtblojlaifnmimaaGreatDoor

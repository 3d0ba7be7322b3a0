import Derived.Test.YtdhkdniddjnigaaGreatDoorGr
import Derived.Test.YtdhkdniddjnigaaGreatDoorRs
namespace Go.Proofs.YtdhkdniddjnigaaGreatDoor
open Go.RowKit
set_option linter.unusedVariables false

theorem cut_to {l : List UInt8} {j : Nat} (hj : j ≤ l.length) (W : World) : (Instr.slice 9 (.string ⟨l.toArray⟩) none (some (.int .i64 (j : Int))) none).run Tryz.prog W = .ok (.string ⟨(l.take j).toArray⟩) W := by
  have := cut_run (l := l) (i := 0) (j := j) (by omega) hj W
  exact this
set_option maxRecDepth 1000000 in
/-- A text's line. -/
theorem one_any {w : World} (l : List UInt8) (hl : l.length ≤ 1000000000000) : Calls Tryz.prog 19 #[.string ⟨l.toArray⟩] w fun e w' => ∃ r : List UInt8, e = .returned (.string ⟨r.toArray⟩) ∧ w' = w ∧ (10 : UInt8) ∉ r ∧ r.length ≤ l.length := by
  have ix : Hid (∀ k, k < l.length → ∀ W, (Instr.index 9 (.string ⟨l.toArray⟩) (.int .i64 (k : Int))).run Tryz.prog W = .ok (.int .u8 ((l.getD k 0).toNat : Int)) W) := hid (fun k hk W => idx_at hk W)
  have CT : Hid (∀ j, j ≤ l.length → ∀ W, (Instr.slice 9 (.string ⟨l.toArray⟩) none (some (.int .i64 (j : Int))) none).run Tryz.prog W = .ok (.string ⟨(l.take j).toArray⟩) W) := hid (fun j hj W => cut_to hj W)
  have hsz : (⟨l.toArray⟩ : ByteArray).size = l.length := by simp [ByteArray.size]
  obtain ⟨L, hL⟩ : ∃ L, Hid (L = l) := ⟨_, hid rfl⟩
  obtain ⟨SB, hSB⟩ : ∃ s, Hid (s = (⟨l.toArray⟩ : ByteArray)) := ⟨_, hid rfl⟩
  obtain ⟨n, hn⟩ : ∃ n, Hid (n = l.length) := ⟨_, hid rfl⟩
  rw [← hSB.out] at ix CT hsz ⊢
  rw [← hn.out] at ix CT hsz hl ⊢
  go_enter Tryz.func19, Tryz.ntmps19
  go_wp2
  go_loopw [3] (fun iv wr => ∃ k : Nat, iv = .int .i64 (k : Int) ∧ k ≤ n ∧ wr = w ∧ Hid ((10 : UInt8) ∉ l.take k)) (fun iv _ => n - (intOf iv).toNat)
  case atStart => exact ⟨0, rfl, Nat.zero_le _, rfl, hid (by simp)⟩
  case round =>
    obtain ⟨k, rfl, hk, rfl, HN⟩ := hrel
    by_cases hlt : k < n
    · have i1 := ix.out k hlt
      have c1 := CT.out k hk
      have hki : (k : Int) < (n : Int) := by omega
      have wk : IntKind.i64.wrap ((k : Int) + 1) = ((k + 1 : Nat) : Int) := by rw [IntKind.wrap_i64]; omega
      have hnn := hn.out
      by_cases h10 : l.getD k 0 = 10
      · rw [h10] at i1
        have i2 : ∀ W, (Instr.index 9 (.string SB) (.int .i64 (k : Int))).run Tryz.prog W = .ok (.int .u8 10) W := i1
        clear i1 ix CT
        have LE := hid (show (l.take k).length ≤ n by rw [List.length_take]; omega)
        go_wp2
        go_ret
        exact ⟨_, rfl, rfl, HN.out, LE.out⟩
      · have e0 : (((l.getD k 0).toNat : Int) == 10) = false := by
          rw [beq_eq_false_iff_ne]
          intro h
          apply h10
          apply UInt8.toNat_inj.1
          have : (10 : UInt8).toNat = 10 := rfl
          omega
        have HN2 : Hid ((10 : UInt8) ∉ l.take (k + 1)) := hid (by
          rw [take_snocB (by omega)]
          intro h
          rcases List.mem_append.1 h with h | h
          · exact HN.out h
          · simp only [List.mem_cons, List.not_mem_nil, or_false] at h
            exact h10 h.symm)
        clear ix CT h10
        generalize ((l.getD k 0).toNat : Int) = b at *
        go_wp2
        exact ⟨⟨k + 1, rfl, hlt, trivial, HN2⟩, by simp only [intOf]; omega⟩
    · have hkn : k = n := by omega
      have HF := hid (show (10 : UInt8) ∉ l by have := HN.out; rwa [List.take_of_length_le (by have := hn.out; omega)] at this)
      have LE := hid (show l.length ≤ n by have := hn.out; omega)
      have e0 : decide ((k : Int) < (n : Int)) = false := decide_eq_false (by omega)
      have e1 : ¬ ((k : Int) < (n : Int)) := by omega
      clear ix CT hkn hlt hk
      go_wp2
      go_ret
      exact ⟨l, (by rw [hSB.out]; rfl), rfl, HF.out, LE.out⟩
end Go.Proofs.YtdhkdniddjnigaaGreatDoor

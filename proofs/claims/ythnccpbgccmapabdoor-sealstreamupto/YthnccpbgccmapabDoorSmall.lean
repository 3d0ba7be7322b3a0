import Derived.Test.YthnccpbgccmapabDoorSum
import Derived.Deep.QuietTactic
import Derived.BigQuiet
namespace Go.Proofs.YthnccpbgccmapabDoor
open Go.RowKit
set_option linter.unusedVariables false

/-- A byte of a number. -/
def byteN (s i : Nat) : UInt8 := UInt8.ofNat (s / 256 ^ i)
theorem byteN_nat (s i : Nat) : (byteN s i).toNat = s / 256 ^ i % 256 := by simp [byteN]

set_option maxHeartbeats 1600000 in
set_option maxRecDepth 1000000 in
theorem byteOf_any {w : World} (s i : Nat) (hs : s < 4294967296) (hi : i < 4) :
    Calls Tryd.prog 31 #[.int .u32 (s : Int), .int .i64 (i : Int)] w fun e w' => e = .returned (.int .u8 ((byteN s i).toNat : Int)) ∧ w' = w := by
  have h4 : i = 0 ∨ i = 1 ∨ i = 2 ∨ i = 3 := by omega
  rcases h4 with rfl | rfl | rfl | rfl
  all_goals go_enter Tryd.func31, Tryd.ntmps31
  all_goals go_wp2
  all_goals go_ret
  all_goals refine ⟨?_, rfl⟩
  all_goals rw [byteN_nat]
  all_goals simp
  all_goals omega

set_option maxHeartbeats 1600000 in
set_option maxRecDepth 1000000 in
theorem sizeBits_any {w : World} (c i : Nat) (hc : c < 256) (hi : i < 3) :
    Calls Tryd.prog 39 #[.int .u8 (c : Int), .int .i64 ((i + 2 : Nat) : Int)] w fun e w' => e = .returned (.int .i64 ((c * 256 ^ i : Nat) : Int)) ∧ w' = w := by
  have h4 : i = 0 ∨ i = 1 ∨ i = 2 := by omega
  rcases h4 with rfl | rfl | rfl
  all_goals go_enter Tryd.func39, Tryd.ntmps39
  all_goals go_wp2
  all_goals go_ret
  all_goals refine ⟨?_, rfl⟩
  all_goals simp
  all_goals go_num

set_option maxHeartbeats 1600000 in
set_option maxRecDepth 1000000 in
theorem sumByte_any {w : World} (s i : Nat) (hs : s < 4294967296) (hi : i < 4) :
    Calls Tryd.prog 43 #[.int .u32 (s : Int), .int .i64 (i : Int)] w fun e w' => e = .returned (.int .u8 ((byteN s i).toNat : Int)) ∧ w' = w := by
  go_enter Tryd.func43, Tryd.ntmps43
  go_wp2
  go_loopw [0, 5] (fun rv iv wr => ∃ (k : Nat), k ≤ i ∧ iv = .int .i64 (k : Int) ∧ rv = .int .u32 ((s / 256 ^ k : Nat) : Int) ∧ w = wr) (fun _ iv _ => i - (intOf iv).toNat)
  case atStart => exact ⟨0, by omega, rfl, by simp, rfl⟩
  case round =>
    obtain ⟨k, hk, rfl, rfl, rfl⟩ := hrel
    have hle : s / 256 ^ k < 4294967296 := Nat.lt_of_le_of_lt (Nat.div_le_self _ _) hs
    by_cases hlt : k < i
    · have e : s / 256 ^ (k + 1) = s / 256 ^ k / 256 := by rw [Nat.pow_succ, Nat.div_div_eq_div_mul]
      generalize s / 256 ^ k = y at *
      go_wp2
      go_roundw
      case rel => exact ⟨k + 1, by omega, by go_num, by rw [e]; rfl, by trivial⟩
      case measure => simp [intOf]; omega
    · have hki : k = i := by omega
      have eb : (byteN s i).toNat = s / 256 ^ k % 256 := by rw [byteN_nat, hki]
      generalize s / 256 ^ k = y at *
      have E : bits .and .u32 (y : Int) 255 = ((y % 256 : Nat) : Int) := by
        have := u32_and_nat y 255 hle (by decide)
        rw [Nat.and_two_pow_sub_one_eq_mod y 8] at this
        exact this
      go_wp2
      go_ret
      exact ⟨by rw [eb]; simp, rfl⟩

set_option maxHeartbeats 1600000 in
set_option maxRecDepth 1000000 in
theorem length_any {w : World} {s : Value} {l : List UInt8} (h : Reads w s l) (h5 : 5 ≤ l.length) (hlen : l.length ≤ 140737488355328) :
    Calls Tryd.prog 40 #[s] w fun e w' => e = .returned (.int .i64 (((l.getD 2 0).toNat + (l.getD 3 0).toNat * 256 + (l.getD 4 0).toNat * 65536 : Nat) : Int)) ∧ ∃ q, w' = w.drewN q := by
  obtain ⟨ao, c, hf⟩ := h.form
  subst hf
  obtain ⟨g, o, rfl, h1⟩ := h.at_u8 2 (by omega)
  obtain ⟨g', o', e, h2⟩ := h.at_u8 3 (by omega)
  simp only [Option.some.injEq, Addr.mk.injEq, and_true] at e
  obtain ⟨rfl, rfl⟩ := e
  obtain ⟨g', o', e, h3⟩ := h.at_u8 4 (by omega)
  simp only [Option.some.injEq, Addr.mk.injEq, and_true] at e
  obtain ⟨rfl, rfl⟩ := e
  have l1 := (l.getD 2 0).toNat_lt
  have l2 := (l.getD 3 0).toNat_lt
  have l3 := (l.getD 4 0).toNat_lt
  generalize (l.getD 2 0).toNat = x1 at *
  generalize (l.getD 3 0).toNat = x2 at *
  generalize (l.getD 4 0).toNat = x3 at *
  clear h
  go_enter Tryd.func40, Tryd.ntmps40
  go_wp2_with fail
  go_quiet (fail)
  go_wp2
  go_ret
  exact ⟨by go_num, _, rfl⟩
end Go.Proofs.YthnccpbgccmapabDoor

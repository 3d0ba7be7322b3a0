import Derived.Test.YtphcfkfdkaphbaaTabS
namespace Go.Proofs.Ytphcfkfdkaphbaa
open Go.RowKit
set_option linter.unusedVariables false

abbrev feq (a b : Nat) : Bool := FloatKind.f64.format.order a b == some .eq

theorem fzero {n : Nat} (hn : n < 18446744073709551616) (h : feq n 0 = true) : n = 0 ∨ n = 9223372036854775808 := by
  have hr : n % 9223372036854775808 = 0 := by
    have e : Ieee.Format.read Ieee.double 0 = .number false 0 (-1074) := by decide
    have hw : Ieee.Format.signWeight Ieee.double = 9223372036854775808 := by decide
    have hb : Ieee.Format.binade Ieee.double = 4503599627370496 := by decide
    have hl : Ieee.Format.leastPlace Ieee.double = -1074 := by decide
    simp only [feq, FloatKind.format, Ieee.Format.order, e] at h
    unfold Ieee.Format.read at h
    rw [hw, hb, hl] at h
    simp only at h
    split at h
    · simp only [Ieee.Datum.order, beq_iff_eq, Option.some.injEq] at h
      have := Int.compare_eq_eq.1 h
      simp [Ieee.signed] at this
      split at this <;> omega
    · split at h
      · simp only [Ieee.Datum.order, beq_iff_eq, Option.some.injEq] at h
        have := Int.compare_eq_eq.1 h
        have hz : ∀ m k : Nat, 0 < m → 0 < m <<< k := fun m k hm => by rw [Nat.shiftLeft_eq]; exact Nat.mul_pos hm (Nat.pow_pos (by omega))
        generalize hk : ((-1074 + ((n % 9223372036854775808 / 4503599627370496 - 1 : Nat) : Int)) - min (-1074 + ((n % 9223372036854775808 / 4503599627370496 - 1 : Nat) : Int)) (-1074)).toNat = k at this
        have h1 := hz (4503599627370496 + n % 9223372036854775808 % 4503599627370496) k (by omega)
        simp only [Ieee.signed] at this
        generalize (4503599627370496 + n % 9223372036854775808 % 4503599627370496) <<< k = q at *
        simp at this
        split at this <;> omega
      · split at h
        · simp only [Ieee.Datum.order, beq_iff_eq, Option.some.injEq] at h
          split at h <;> cases h
        · simp [Ieee.Datum.order] at h
  omega

theorem fneg {n : Nat} (hn : n < 18446744073709551616) (h : feq n 0 = true) : feq (Op.negFloat .f64 n) n = true := by
  rcases fzero hn h with rfl | rfl <;> decide

theorem isNameF {w : World} (n : Nat) : Calls Try.prog 58 #[.float .f64 n] w fun e w' => e = .returned (.bool (feq n n)) ∧ w' = w := by
  go_enter Try.func58, Try.ntmps58
  go_wp2
  go_ret
  exact ⟨rfl, rfl⟩

theorem Try.und112 : Try.prog.underlying 112 = some (.map 67 3) := by kernel_rfl
theorem Try.und67 : Try.prog.underlying 67 = some (.float .f64) := by kernel_rfl

/-- The entry. -/
def ent (n : Nat) (m : Int) : MapEntry := { key := .float .f64 n, val := .int .i64 m, born := 0 }

theorem run_checkF (e : Bool) (n : Nat) (w : World) : (Instr.checkKey e 10000 67 (.float .f64 n)).run Try.prog w = .ok () w := by
  have key : ∀ d, (Instr.checkKey e (d + 1) 67 (.float .f64 n)).run Try.prog w = .ok () w := fun d => by
    unfold Instr.checkKey
    simp [run_underlying Try.und67, Result.andThen]
  exact key 9999

theorem run_eqF (a b : Nat) (w : World) : (Op.equal 67 (.float .f64 a) (.float .f64 b)).run Try.prog w = .ok (feq a b) w := by
  have key : ∀ d, (Op.equalIn (d + 1) 67 (.float .f64 a) (.float .f64 b)).run Try.prog w = .ok (feq a b) w := fun d => by
    unfold Op.equalIn
    simp [run_underlying Try.und67, Op.floatEq, Result.andThen]
  exact key 9999

theorem run_findF0 (n : Nat) (w : World) : (Instr.findKey 67 (.float .f64 n) []).run Try.prog w = .ok none w := by
  simp [Instr.findKey, run_underlying Try.und67, Instr.findNow]

theorem run_findF1 (n k : Nat) (m : Int) (w : World) (h : feq n k = true) : (Instr.findKey 67 (.float .f64 n) [ent k m]).run Try.prog w = .ok (some (0, .int .i64 m)) w := by
  simp [Instr.findKey, run_underlying Try.und67, Instr.findNow, Instr.sameNow, Instr.findAsking, ent, run_eqF, h]

theorem look0 {w : World} {b c : Nat} (hb : w.heap[b]? = some (.map #[] c)) (n : Nat) : (Instr.lookup 112 (.map (some b)) (.float .f64 n) true).run Try.prog w = .ok (.tuple #[.int .i64 0, .bool false]) w := by
  simp [Instr.lookup, run_underlying Try.und112, MapKept.run_getObj_map hb, run_checkF, run_findF0, Result.andThen]

theorem look1 {w : World} {b c k : Nat} {m : Int} (hb : w.heap[b]? = some (.map #[ent k m] c)) (n : Nat) (h : feq n k = true) : (Instr.lookup 112 (.map (some b)) (.float .f64 n) true).run Try.prog w = .ok (.tuple #[.int .i64 m, .bool true]) w := by
  simp [Instr.lookup, run_underlying Try.und112, MapKept.run_getObj_map hb, run_checkF, run_findF1 n k m _ h, Result.andThen]

theorem put0 {w : World} {b : Nat} (hb : w.heap[b]? = some (.map #[] 0)) (n : Nat) (m : Int) : (Instr.mapUpdate 112 (.map (some b)) (.float .f64 n) (.int .i64 m)).run Try.prog w = .ok () { w with heap := w.heap.setIfInBounds b (.map #[ent n m] 1) } := by
  simp [Instr.mapUpdate, run_underlying Try.und112, MapKept.run_getObj_map hb, run_checkF, run_findF0, MapKept.run_setObj_map _ hb, Result.andThen, ent]

theorem del0 {w : World} {b c : Nat} (hb : w.heap[b]? = some (.map #[] c)) (n : Nat) (ty : TypeId) : (Builtin.delete_ #[112, 67] ty #[.map (some b), .float .f64 n]).run Try.prog w = .ok (.tuple #[]) { w with heap := w.heap.setIfInBounds b (.map #[] c) } := by
  simp [Builtin.delete_, run_underlying Try.und112, MapKept.run_getObj_map hb, run_checkF, run_findF0, MapKept.run_setObj_map _ hb, Result.andThen]

theorem del1 {w : World} {b c k : Nat} {m : Int} (hb : w.heap[b]? = some (.map #[ent k m] c)) (n : Nat) (h : feq n k = true) (ty : TypeId) : (Builtin.delete_ #[112, 67] ty #[.map (some b), .float .f64 n]).run Try.prog w = .ok (.tuple #[]) { w with heap := w.heap.setIfInBounds b (.map #[] c) } := by
  simp [Builtin.delete_, run_underlying Try.und112, MapKept.run_getObj_map hb, run_checkF, run_findF1 n k m _ h, MapKept.run_setObj_map _ hb, Result.andThen]
end Go.Proofs.Ytphcfkfdkaphbaa

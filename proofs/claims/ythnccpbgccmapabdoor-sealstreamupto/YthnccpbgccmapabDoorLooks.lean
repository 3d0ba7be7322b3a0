import Derived.Test.YthnccpbgccmapabDoorStrm
import Derived.Deep.QuietTactic
import Derived.BigQuiet
namespace Go.Proofs.YthnccpbgccmapabDoor
open Go.RowKit
set_option linter.unusedVariables false
attribute [local go_sem ↓] Go.wp_at_zero Go.wp_at_succ

theorem begB_iff (t : List UInt8) (s : Nat) : begB t s = true ↔ ∀ j, j < 4 → j < t.length → t.getD j 0 = byteN s j := by
  unfold begB
  rw [sumB_four]
  match t with
  | [] => simp
  | [a] =>
    constructor
    · intro h j hj hl
      simp at h hl
      subst hl
      simpa using h
    · intro h
      have := h 0 (by omega) (by simp)
      simpa using this
  | [a, b] =>
    constructor
    · intro h j hj hl
      simp at h hl
      have : j = 0 ∨ j = 1 := by omega
      rcases this with rfl | rfl <;> simp [h]
    · intro h
      have h0 := h 0 (by omega) (by simp)
      have h1 := h 1 (by omega) (by simp)
      simp at h0 h1
      simp [h0, h1]
  | [a, b, c] =>
    constructor
    · intro h j hj hl
      simp at h hl
      have : j = 0 ∨ j = 1 ∨ j = 2 := by omega
      rcases this with rfl | rfl | rfl <;> simp [h]
    · intro h
      have h0 := h 0 (by omega) (by simp)
      have h1 := h 1 (by omega) (by simp)
      have h2 := h 2 (by omega) (by simp)
      simp at h0 h1 h2
      simp [h0, h1, h2]
  | a :: b :: c :: d :: r =>
    constructor
    · intro h j hj hl
      simp at h
      have : j = 0 ∨ j = 1 ∨ j = 2 ∨ j = 3 := by omega
      rcases this with rfl | rfl | rfl | rfl <;> simp [h]
    · intro h
      have h0 := h 0 (by omega) (by simp)
      have h1 := h 1 (by omega) (by simp)
      have h2 := h 2 (by omega) (by simp)
      have h3 := h 3 (by omega) (by simp)
      simp at h0 h1 h2 h3
      simp [h0, h1, h2, h3]

theorem sumByte_q (s i : Nat) (hs : s < 4294967296) (hi : i < 4) (w : World) : Calls Tryd.prog 43 #[.int .u32 (s : Int), .int .i64 (i : Int)] w fun e w' => e = .returned (.int .u8 ((byteN s i).toNat : Int)) ∧ ∃ q, w' = w.drewN q :=
  (sumByte_any s i hs hi).mono fun e w' ⟨h1, h2⟩ => ⟨h1, 0, h2⟩

theorem getD_drop' (l : List UInt8) (a j : Nat) : (l.drop a).getD j 0 = l.getD (a + j) 0 := by
  simp [List.getD_eq_getElem?_getD]

set_option maxHeartbeats 3200000 in
set_option maxRecDepth 1000000 in
theorem begins_any {w : World} {s : Value} {l : List UInt8} (h : Reads w s l) (at_ : Nat) (hat : at_ ≤ l.length) (hlen : l.length ≤ 1048576) (S : Nat) (hS : S < 4294967296) :
    Calls Tryd.prog 41 #[s, .int .i64 (at_ : Int), .int .u32 (S : Int)] w fun e w' => e = .returned (.bool (begB (l.drop at_) S)) ∧ ∃ q, w' = w.drewN q := by
  obtain ⟨ao, c, hf⟩ := h.form
  subst hf
  have HH := hid h
  clear h
  go_enter Tryd.func41, Tryd.ntmps41
  go_wp2
  go_loopw [7] (fun iv wr => ∃ (i q : Nat), i ≤ 4 ∧ iv = .int .i64 (i : Int) ∧ Hid (∀ j, j < i → j < (l.drop at_).length → (l.drop at_).getD j 0 = byteN S j) ∧ wr = w.drewN q) (fun iv _ => 4 - (intOf iv).toNat)
  case atStart => exact ⟨0, 0, by omega, rfl, fun j hj => by omega, rfl⟩
  case round =>
    obtain ⟨i, q, hi, rfl, HA, hwr⟩ := hrel
    have HWR := hid hwr
    by_cases hlt : i < 4
    · by_cases hin : at_ + i < l.length
      · obtain ⟨g, o, rfl, hc⟩ := HH.out.at_u8 (at_ + i) hin
        obtain ⟨m, hm⟩ : ∃ m, m = at_ + i := ⟨_, rfl⟩
        have hsum : (at_ : Int) + (i : Int) = (m : Int) := by omega
        rw [← hm] at hc hin
        have HMM := hid hm
        have hmb : m ≤ 1048576 := by omega
        have hwm : IntKind.i64.wrap (m : Int) = (m : Int) := by simp [IntKind.wrap, IntKind.bits, IntKind.signed]; omega
        clear hm
        have hcq : wr.cell? ⟨g, o + m, none⟩ = some (.int .u8 ((l.getD m 0).toNat : Int)) := by rw [hwr]; exact hc
        clear hwr
        have hbl := (byteN S i).toNat_lt
        by_cases heq : l.getD m 0 = byteN S i
        · rw [heq] at hcq
          have HE := hid heq
          clear heq hc
          have hz1 : (m : Int) < (l.length : Int) := by omega
          go_wp2_with fail
          go_quiet (first | (go_at_call 43; refine Calls.quiet_of (sumByte_q S i hS hlt _)))
          all_goals go_wp2
          all_goals (go_roundw; (case rel => exact ⟨i + 1, _, by omega, by go_num, (fun j hj hl => by
            by_cases hji : j < i
            · exact HA.out j hji hl
            · have : j = i := by omega
              subst this
              rw [getD_drop', ← HMM.out]; exact HE.out), by rw [HWR.out, World.drewN_drewN]⟩); (case measure => simp [intOf]; omega))
        · have hne : ¬ ((l.getD m 0).toNat : Int) = ((byteN S i).toNat : Int) := fun e => heq (UInt8.toNat_inj.1 (by omega))
          have hneN : ¬ (l.getD m 0).toNat = (byteN S i).toNat := fun e => heq (UInt8.toNat_inj.1 e)
          have hcl := (l.getD m 0).toNat_lt
          have HF : Hid (begB (l.drop at_) S = false) := by
            cases hb : begB (l.drop at_) S
            · exact hid rfl
            · have := (begB_iff _ _).1 hb i hlt (by simp; omega)
              rw [getD_drop', ← HMM.out] at this
              exact absurd this heq
          generalize (l.getD m 0).toNat = cn at *
          have hz1 : (m : Int) < (l.length : Int) := by omega
          clear heq hc
          go_wp2_with fail
          go_quiet (first | (go_at_call 43; refine Calls.quiet_of (sumByte_q S i hS hlt _)))
          all_goals go_wp2
          all_goals go_ret
          all_goals exact ⟨by rw [HF.out]; rfl, _, by rw [HWR.out, World.drewN_drewN]⟩
      · clear hwr
        have hz2 : decide ((at_ : Int) + (i : Int) < (l.length : Int)) = false := decide_eq_false (by omega)
        go_wp2_with fail
        go_quiet (fail)
        all_goals go_wp2
        all_goals (go_roundw; (case rel => exact ⟨i + 1, _, by omega, by go_num, (fun j hj hl => HA.out j (by simp at hl; omega) hl), by rw [HWR.out, World.drewN_drewN]⟩); (case measure => simp [intOf]; omega))
    · have HF : Hid (begB (l.drop at_) S = true) := hid ((begB_iff _ _).2 (fun j hj hl => HA.out j (by omega) hl))
      clear hwr
      go_wp2
      go_ret
      exact ⟨by rw [HF.out]; rfl, _, HWR.out⟩
end Go.Proofs.YthnccpbgccmapabDoor

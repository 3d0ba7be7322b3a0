import Derived.Test.YtdndfbgjaadbmaaLent
import Derived.Deep.QuietTactic
import Derived.BigQuiet
namespace Go.Proofs.Ytdndfbgjaadbmaa
open Go.RowKit
set_option linter.unusedVariables false

theorem behind_low (l : List UInt8) (k : Nat) (h : k < l.length) : (behind l 8).getD k 0 = l.getD k 0 := by
  unfold behind
  rw [List.getD_eq_getElem?_getD, List.getD_eq_getElem?_getD, List.getElem?_append_left h]
theorem behind_high (l : List UInt8) (k : Nat) (h : l.length ≤ k) (h2 : k < l.length + 8) : (behind l 8).getD k 0 = 165 := by
  unfold behind
  rw [List.getD_eq_getElem?_getD, List.getElem?_append_right h, List.getElem?_replicate, if_pos (by omega)]
  rfl

set_option maxHeartbeats 3200000 in
set_option maxRecDepth 1000000 in
theorem still_any {w : World} {s t : Value} {l : List UInt8} (hs : Reads w s (behind l 8)) (ht : Reads w t l) (hlen : l.length ≤ 140737488350000) :
    Calls Try.prog 22 #[s, t] w fun e w' => e = .returned (.bool true) ∧ ∃ q, w' = w.drewN q := by
  obtain ⟨ao, c, hf⟩ := hs.form
  obtain ⟨ao', c', hf'⟩ := ht.form
  subst hf hf'
  have HS := hid hs
  have HT := hid ht
  rw [behind_len] at HS ⊢
  clear hs ht
  go_enter Try.func22, Try.ntmps22
  go_wp2
  go_loopw [5] (fun iv wr => ∃ (k q : Nat), k ≤ l.length + 8 ∧ iv = .int .i64 (k : Int) ∧ wr = w.drewN q) (fun iv _ => l.length + 8 - (intOf iv).toNat)
  case atStart => exact ⟨0, 0, by omega, rfl, rfl⟩
  case round =>
    obtain ⟨k, q, hk, rfl, rfl⟩ := hrel
    by_cases hlt : k < l.length + 8
    · obtain ⟨g, o, rfl, h1⟩ := HS.out.at_u8 k (by rw [behind_len]; exact hlt)
      by_cases hlow : k < l.length
      · obtain ⟨g', o', rfl, h2⟩ := HT.out.at_u8 k hlow
        rw [behind_low l k hlow] at h1
        obtain ⟨x, hx⟩ : ∃ x : Nat, x = (l.getD k 0).toNat := ⟨_, rfl⟩
        rw [← hx] at h1 h2
        clear hx
        have hb : ((x : Int) != (x : Int)) = false := by simp
        have hb2 : (k : Int) < (l.length : Int) := by omega
        have hb3 : decide (l.length ≤ k) = false := by simp; omega
        go_wp2_with fail
        go_quiet (fail)
        go_wp2
        go_roundw
        case rel => exact ⟨k + 1, _, by omega, by go_num, rfl⟩
        case measure => simp [intOf]; omega
      · rw [behind_high l k (by omega) hlt] at h1
        have hb2 : decide ((k : Int) < (l.length : Int)) = false := by simp; omega
        have hb4 : decide (k < l.length) = false := by simp; omega
        have hb3 : (l.length : Int) ≤ (k : Int) := by omega
        have h1' : w.cell? ⟨g, o + k, none⟩ = some (.int .u8 165) := h1
        clear h1
        go_wp2_with fail
        go_quiet (fail)
        go_wp2
        go_roundw
        case rel => exact ⟨k + 1, _, by omega, by go_num, rfl⟩
        case measure => simp [intOf]; omega
    · go_wp2
      go_ret
      exact ⟨rfl, q, rfl⟩

end Go.Proofs.Ytdndfbgjaadbmaa

import Derived.Test.YtdndfbgjaadbmaaGot
import Derived.Deep.Draws
namespace Go.Proofs.Ytdndfbgjaadbmaa
open Go.RowKit
set_option linter.unusedVariables false

theorem Reads.at_u8 {w : World} {ao : Option Addr} {n c : Nat} {l : List UInt8} (h : Reads w (.slice ao n c) l) (k : Nat) (hk : k < l.length) : ∃ g o, ao = some ⟨g, o, none⟩ ∧ w.cell? ⟨g, o + k, none⟩ = some (.int .u8 ((l.getD k 0).toNat : Int)) := h.at k hk

set_option maxHeartbeats 1600000 in
set_option maxRecDepth 1000000 in
/-- Lists that are alike. -/
theorem same_true {w : World} {s t : Value} {l : List UInt8} (hs : Reads w s l) (ht : Reads w t l) (hlen : l.length ≤ 140737488355328) :
    Calls Try.prog 15 #[s, t] w fun e w' => e = .returned (.bool true) ∧ Below w.heap.size w w' := by
  obtain ⟨ao, c, hf⟩ := hs.form
  obtain ⟨ao', c', hf'⟩ := ht.form
  subst hf hf'
  have HS := hid hs
  have HT := hid ht
  clear hs ht
  go_enter Try.func15, Try.ntmps15
  go_wp2
  go_loopw [5] (fun iv wr => ∃ (k q : Nat), k ≤ l.length ∧ iv = .int .i64 (k : Int) ∧ wr = w.drewN q) (fun iv _ => l.length - (intOf iv).toNat)
  case atStart => exact ⟨0, 0, by omega, rfl, rfl⟩
  case round =>
    obtain ⟨k, q, hk, rfl, rfl⟩ := hrel
    by_cases hlt : k < l.length
    · obtain ⟨g, o, rfl, h1⟩ := HS.out.at_u8 k hlt
      obtain ⟨g', o', rfl, h2⟩ := HT.out.at_u8 k hlt
      generalize (l.getD k 0).toNat = x at h1 h2
      have hb : ((x : Int) != (x : Int)) = false := by simp
      go_wp2
      go_region
      go_wp2
      go_roundw
      case rel => exact ⟨k + 1, q + 1, by omega, by go_num, by simp⟩
      case measure => simp [intOf]; omega
    · go_wp2
      go_ret
      exact ⟨rfl, ⟨rfl, rfl, rfl, Nat.le_refl _, fun _ _ => rfl⟩⟩

end Go.Proofs.Ytdndfbgjaadbmaa

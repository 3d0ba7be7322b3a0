import Derived.Test.YtdhkdniddjnigaaGreatDoorD12
import Derived.Test.YtdhkdniddjnigaaGreatDoorRC3
namespace Go.Proofs.YtdhkdniddjnigaaGreatDoor
open Go.RowKit
set_option linter.unusedVariables false

abbrev resV (c n : Int) (s : Value) : Value := .agg #[.int .i64 c, .int .i64 n, s]

/-- What CheckResult tells. -/
def chkX (c n : Int) (l : List ByteArray) : Int :=
  if c < 0 ∨ 4 < c then 50 else if c ≠ 0 ∧ (n ≠ 0 ∨ l ≠ []) then 55 else if n < 0 ∨ 1099511627776 < n then 53
  else if 8 < l.length then 54 else if ∃ t ∈ l, 64 < t.size then 52 else 0

set_option maxHeartbeats 1600000 in
set_option maxRecDepth 1000000 in
theorem checkX_any {w : World} (c n : Int) {s : Value} {l : List ByteArray} (h : Txts w s l) (hl : l.length ≤ 9223372036854775807) : Calls Tryz.prog 98 #[resV c n s] w fun e w' => e = .returned (.int .i64 (chkX c n l)) ∧ Below w.heap.size w w' := by
  obtain ⟨ao, cp, rfl⟩ := h.form
  have HT := hid h
  have HH : Hid (∀ o, ∃ w1, w1 = w.alloc o) := fun o => ⟨_, rfl⟩
  clear h
  by_cases c0 : c < 0
  · have F : Hid (chkX c n l = 50) := by simp [chkX, c0, Hid]
    have e0 : decide (c < 0) = true := by simpa using c0
    go_enter Tryz.func98, Tryz.ntmps98
    go_wp2
    go_ret
    exact ⟨by rw [F.out]; rfl, ba _ _⟩
  have e0 : decide (c < 0) = false := by simpa using c0
  by_cases c4 : 4 < c
  · have F : Hid (chkX c n l = 50) := by simp [chkX, c4, Hid]
    have e4 : decide (4 < c) = true := by simpa using c4
    go_enter Tryz.func98, Tryz.ntmps98
    go_wp2
    go_ret
    exact ⟨by rw [F.out]; rfl, ba _ _⟩
  have e4 : decide (4 < c) = false := by simpa using c4
  by_cases hcn : c ≠ 0 ∧ (n ≠ 0 ∨ l ≠ [])
  · have F : Hid (chkX c n l = 55) := by unfold chkX; rw [if_neg (by omega), if_pos hcn]; exact rfl
    have ec : (c != 0) = true := by simpa using hcn.1
    by_cases hn : n = 0
    · have hl0 : 0 < l.length := by
        rcases hcn.2 with h | h
        · exact absurd hn h
        · exact List.length_pos_iff.2 h
      subst hn
      have eL : decide (0 < (l.length : Int)) = true := by simpa using hl0
      clear hcn
      go_enter Tryz.func98, Tryz.ntmps98
      go_wp2
      go_ret
      exact ⟨by rw [F.out]; rfl, ba _ _⟩
    · have en : (n != 0) = true := by simpa using hn
      clear hcn
      go_enter Tryz.func98, Tryz.ntmps98
      go_wp2
      go_ret
      exact ⟨by rw [F.out]; rfl, ba _ _⟩
  have G : Hid (c = 0 ∨ (c ≠ 0 ∧ n = 0 ∧ l = [])) := by
    rcases Classical.em (c = 0) with h | h
    · exact Or.inl h
    · refine Or.inr ⟨h, ?_, ?_⟩
      · exact Classical.byContradiction fun hh => hcn ⟨h, Or.inl hh⟩
      · exact Classical.byContradiction fun hh => hcn ⟨h, Or.inr hh⟩
  have F1 : Hid (chkX c n l = if n < 0 ∨ 1099511627776 < n then 53 else if 8 < l.length then 54 else if ∃ t ∈ l, 64 < t.size then 52 else 0) := by unfold chkX; rw [if_neg (by omega), if_neg hcn]; exact rfl
  clear hcn
  rcases G.out with hc | ⟨hc, hn0, hl0⟩
  · subst hc
    clear G e0 e4 c0 c4
    by_cases n0 : n < 0
    · have F : Hid (chkX 0 n l = 53) := by rw [F1.out]; simp [n0, Hid]
      have en : decide (n < 0) = true := by simpa using n0
      clear F1
      go_enter Tryz.func98, Tryz.ntmps98
      go_wp2
      go_ret
      exact ⟨by rw [F.out]; rfl, ba _ _⟩
    have en : decide (n < 0) = false := by simpa using n0
    by_cases n1 : 1099511627776 < n
    · have F : Hid (chkX 0 n l = 53) := by rw [F1.out]; simp [n1, Hid]
      have en1 : decide (1099511627776 < n) = true := by simpa using n1
      clear F1
      go_enter Tryz.func98, Tryz.ntmps98
      go_wp2
      go_ret
      exact ⟨by rw [F.out]; rfl, ba _ _⟩
    have en1 : decide (1099511627776 < n) = false := by simpa using n1
    by_cases l8 : 8 < l.length
    · have F : Hid (chkX 0 n l = 54) := by rw [F1.out]; simp [l8, Hid]; omega
      have e8 : decide ((8 : Int) < (l.length : Int)) = true := by simp; omega
      clear F1
      go_enter Tryz.func98, Tryz.ntmps98
      go_wp2
      go_ret
      exact ⟨by rw [F.out]; rfl, ba _ _⟩
    have e8 : decide ((8 : Int) < (l.length : Int)) = false := by simp; omega
    have F2 : Hid (chkX 0 n l = if ∃ t ∈ l, 64 < t.size then 52 else 0) := by rw [F1.out, if_neg (by omega), if_neg l8]; exact rfl
    clear F1
    go_enter Tryz.func98, Tryz.ntmps98
    go_wp2
    go_loopw [46] (fun iv wr => ∃ k : Nat, iv = .int .i64 (k : Int) ∧ k ≤ l.length ∧ Hid (∀ j (hj : j < k) (hl : j < l.length), l[j].size ≤ 64) ∧ wr = w.alloc (.cells #[.int .i64 0, .int .i64 n, .slice ao l.length cp] 45)) (fun iv _ => l.length - (intOf iv).toNat)
    case atStart => exact ⟨0, rfl, Nat.zero_le _, fun j hj => absurd hj (by omega), rfl⟩
    case round =>
      obtain ⟨k, rfl, hk, hbef, rfl⟩ := hrel
      by_cases hlt : k < l.length
      · obtain ⟨g, o, ea, hg, hcell⟩ := (HT.out.alloc (.cells #[.int .i64 0, .int .i64 n, .slice ao l.length cp] 45)).at hlt
        subst ea
        have el : decide ((k : Int) < (l.length : Int)) = true := by simpa using hlt
        by_cases h64 : 64 < (l[k]'hlt).size
        · have e64 : decide ((64 : Int) < ((l[k]'hlt).size : Int)) = true := by simp; omega
          go_wp2
          go_ret
          exact ⟨by rw [F2.out, if_pos ⟨_, List.getElem_mem hlt, h64⟩]; rfl, ba _ _⟩
        · have e64 : decide ((64 : Int) < ((l[k]'hlt).size : Int)) = false := by simp; omega
          go_wp2
          go_roundw
          case rel => exact ⟨k + 1, by go_num, by omega, fun j hj hl => by rcases Nat.lt_succ_iff_lt_or_eq.1 hj with h | h; exact hbef.out j h hl; subst h; omega, trivial⟩
          case measure => simp [intOf]; omega
      · have el : decide ((k : Int) < (l.length : Int)) = false := by simp; omega
        go_wp2
        go_ret
        exact ⟨by rw [F2.out, if_neg]; rfl; rintro ⟨t, ht, h64⟩; obtain ⟨j, hj, rfl⟩ := List.getElem_of_mem ht; have := hbef.out j (by omega) hj; omega, ba _ _⟩
  · subst hn0
    subst hl0
    have F2 : Hid (chkX c 0 [] = 0) := by rw [F1.out]; simp [Hid]
    have ec : (c != 0) = true := by simpa using hc
    clear F1 G
    simp only [List.length_nil] at HT ⊢
    go_enter Tryz.func98, Tryz.ntmps98
    go_wp2
    go_loopw [46] (fun iv wr => iv = .int .i64 0 ∧ wr = w.alloc (.cells #[.int .i64 c, .int .i64 0, .slice ao 0 cp] 45)) (fun iv _ => 0)
    case atStart => exact ⟨rfl, rfl⟩
    case round =>
      obtain ⟨rfl, rfl⟩ := hrel
      go_wp2
      go_ret
      exact ⟨by rw [F2.out]; rfl, ba _ _⟩

set_option maxHeartbeats 1600000 in
set_option maxRecDepth 1000000 in
theorem checkX_ref {w : World} (c n : Int) {s : Value} {l : List ByteArray} (h : Txts w s l) (hl : l.length ≤ 9223372036854775807) : Calls Tryz.prog 71 #[resV c n s] w fun e w' => e = .returned (.int .i64 (chkX c n l)) ∧ Below w.heap.size w w' := by
  obtain ⟨ao, cp, rfl⟩ := h.form
  have HT := hid h
  have HH : Hid (∀ o, ∃ w1, w1 = w.alloc o) := fun o => ⟨_, rfl⟩
  clear h
  by_cases c0 : c < 0
  · have F : Hid (chkX c n l = 50) := by simp [chkX, c0, Hid]
    have e0 : decide (c < 0) = true := by simpa using c0
    go_enter Tryz.func71, Tryz.ntmps71
    go_wp2
    go_ret
    exact ⟨by rw [F.out]; rfl, ba _ _⟩
  have e0 : decide (c < 0) = false := by simpa using c0
  by_cases c4 : 4 < c
  · have F : Hid (chkX c n l = 50) := by simp [chkX, c4, Hid]
    have e4 : decide (4 < c) = true := by simpa using c4
    go_enter Tryz.func71, Tryz.ntmps71
    go_wp2
    go_ret
    exact ⟨by rw [F.out]; rfl, ba _ _⟩
  have e4 : decide (4 < c) = false := by simpa using c4
  by_cases hcn : c ≠ 0 ∧ (n ≠ 0 ∨ l ≠ [])
  · have F : Hid (chkX c n l = 55) := by unfold chkX; rw [if_neg (by omega), if_pos hcn]; exact rfl
    have ec : (c != 0) = true := by simpa using hcn.1
    by_cases hn : n = 0
    · have hl0 : 0 < l.length := by
        rcases hcn.2 with h | h
        · exact absurd hn h
        · exact List.length_pos_iff.2 h
      subst hn
      have eL : decide (0 < (l.length : Int)) = true := by simpa using hl0
      clear hcn
      go_enter Tryz.func71, Tryz.ntmps71
      go_wp2
      go_ret
      exact ⟨by rw [F.out]; rfl, ba _ _⟩
    · have en : (n != 0) = true := by simpa using hn
      clear hcn
      go_enter Tryz.func71, Tryz.ntmps71
      go_wp2
      go_ret
      exact ⟨by rw [F.out]; rfl, ba _ _⟩
  have G : Hid (c = 0 ∨ (c ≠ 0 ∧ n = 0 ∧ l = [])) := by
    rcases Classical.em (c = 0) with h | h
    · exact Or.inl h
    · refine Or.inr ⟨h, ?_, ?_⟩
      · exact Classical.byContradiction fun hh => hcn ⟨h, Or.inl hh⟩
      · exact Classical.byContradiction fun hh => hcn ⟨h, Or.inr hh⟩
  have F1 : Hid (chkX c n l = if n < 0 ∨ 1099511627776 < n then 53 else if 8 < l.length then 54 else if ∃ t ∈ l, 64 < t.size then 52 else 0) := by unfold chkX; rw [if_neg (by omega), if_neg hcn]; exact rfl
  clear hcn
  rcases G.out with hc | ⟨hc, hn0, hl0⟩
  · subst hc
    clear G e0 e4 c0 c4
    by_cases n0 : n < 0
    · have F : Hid (chkX 0 n l = 53) := by rw [F1.out]; simp [n0, Hid]
      have en : decide (n < 0) = true := by simpa using n0
      clear F1
      go_enter Tryz.func71, Tryz.ntmps71
      go_wp2
      go_ret
      exact ⟨by rw [F.out]; rfl, ba _ _⟩
    have en : decide (n < 0) = false := by simpa using n0
    by_cases n1 : 1099511627776 < n
    · have F : Hid (chkX 0 n l = 53) := by rw [F1.out]; simp [n1, Hid]
      have en1 : decide (1099511627776 < n) = true := by simpa using n1
      clear F1
      go_enter Tryz.func71, Tryz.ntmps71
      go_wp2
      go_ret
      exact ⟨by rw [F.out]; rfl, ba _ _⟩
    have en1 : decide (1099511627776 < n) = false := by simpa using n1
    by_cases l8 : 8 < l.length
    · have F : Hid (chkX 0 n l = 54) := by rw [F1.out]; simp [l8, Hid]; omega
      have e8 : decide ((8 : Int) < (l.length : Int)) = true := by simp; omega
      clear F1
      go_enter Tryz.func71, Tryz.ntmps71
      go_wp2
      go_ret
      exact ⟨by rw [F.out]; rfl, ba _ _⟩
    have e8 : decide ((8 : Int) < (l.length : Int)) = false := by simp; omega
    have F2 : Hid (chkX 0 n l = if ∃ t ∈ l, 64 < t.size then 52 else 0) := by rw [F1.out, if_neg (by omega), if_neg l8]; exact rfl
    clear F1
    go_enter Tryz.func71, Tryz.ntmps71
    go_wp2
    go_loopw [3] (fun iv wr => ∃ k : Nat, iv = .int .i64 (k : Int) ∧ k ≤ l.length ∧ Hid (∀ j (hj : j < k) (hl : j < l.length), l[j].size ≤ 64) ∧ wr = w.alloc (.cells #[.int .i64 0, .int .i64 n, .slice ao l.length cp] 45)) (fun iv _ => l.length - (intOf iv).toNat)
    case atStart => exact ⟨0, rfl, Nat.zero_le _, fun j hj => absurd hj (by omega), rfl⟩
    case round =>
      obtain ⟨k, rfl, hk, hbef, rfl⟩ := hrel
      by_cases hlt : k < l.length
      · obtain ⟨g, o, ea, hg, hcell⟩ := (HT.out.alloc (.cells #[.int .i64 0, .int .i64 n, .slice ao l.length cp] 45)).at hlt
        subst ea
        have el : decide ((k : Int) < (l.length : Int)) = true := by simpa using hlt
        by_cases h64 : 64 < (l[k]'hlt).size
        · have e64 : decide ((64 : Int) < ((l[k]'hlt).size : Int)) = true := by simp; omega
          go_wp2
          go_ret
          exact ⟨by rw [F2.out, if_pos ⟨_, List.getElem_mem hlt, h64⟩]; rfl, ba _ _⟩
        · have e64 : decide ((64 : Int) < ((l[k]'hlt).size : Int)) = false := by simp; omega
          go_wp2
          go_roundw
          case rel => exact ⟨k + 1, by go_num, by omega, fun j hj hl => by rcases Nat.lt_succ_iff_lt_or_eq.1 hj with h | h; exact hbef.out j h hl; subst h; omega, trivial⟩
          case measure => simp [intOf]; omega
      · have el : decide ((k : Int) < (l.length : Int)) = false := by simp; omega
        go_wp2
        go_ret
        exact ⟨by rw [F2.out, if_neg]; rfl; rintro ⟨t, ht, h64⟩; obtain ⟨j, hj, rfl⟩ := List.getElem_of_mem ht; have := hbef.out j (by omega) hj; omega, ba _ _⟩
  · subst hn0
    subst hl0
    have F2 : Hid (chkX c 0 [] = 0) := by rw [F1.out]; simp [Hid]
    have ec : (c != 0) = true := by simpa using hc
    clear F1 G
    simp only [List.length_nil] at HT ⊢
    go_enter Tryz.func71, Tryz.ntmps71
    go_wp2
    go_loopw [3] (fun iv wr => iv = .int .i64 0 ∧ wr = w.alloc (.cells #[.int .i64 c, .int .i64 0, .slice ao 0 cp] 45)) (fun iv _ => 0)
    case atStart => exact ⟨rfl, rfl⟩
    case round =>
      obtain ⟨rfl, rfl⟩ := hrel
      go_wp2
      go_ret
      exact ⟨by rw [F2.out]; rfl, ba _ _⟩
end Go.Proofs.YtdhkdniddjnigaaGreatDoor

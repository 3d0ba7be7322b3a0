import Derived.Test.YtpfpamkbahgkpaaLaw3
namespace Go.Proofs.Ytpfpamkbahgkpaa
open Go.RowKit
set_option linter.unusedVariables false

/-- What is behind a list that is lent. -/
def behind (l : List UInt8) (j : Nat) : List UInt8 := l ++ List.replicate j 165

theorem behind_len (l : List UInt8) (j : Nat) : (behind l j).length = l.length + j := by simp [behind]
theorem behind_succ (l : List UInt8) (j : Nat) : cellsB (behind l (j + 1)) = cellsB (behind l j) ++ [.int .u8 165] := by
  unfold behind
  rw [List.replicate_succ', ← List.append_assoc, cellsB_append]
  rfl
theorem behind_zero (l : List UInt8) : behind l 0 = l := by simp [behind]
theorem behind_low (l : List UInt8) (k : Nat) (h : k < l.length) : (behind l 8).getD k 0 = l.getD k 0 := by
  unfold behind
  rw [List.getD_eq_getElem?_getD, List.getD_eq_getElem?_getD, List.getElem?_append_left h]
theorem behind_high (l : List UInt8) (k : Nat) (h : l.length ≤ k) (h2 : k < l.length + 8) : (behind l 8).getD k 0 = 165 := by
  unfold behind
  rw [List.getD_eq_getElem?_getD, List.getElem?_append_right h, List.getElem?_replicate, if_pos (by omega)]
  rfl

/-- One byte that was just laid. -/
theorem one_newL (w : World) (x : Int) : ∀ j u, ([.int .u8 x] : List Value)[j]? = some u → (w.alloc (.cells #[.int .u8 x] 5)).cell? ((⟨w.heap.size, 0, none⟩ : Addr).add j) = some u := by
  intro j u hj
  match j, hj with
  | 0, hj =>
    simp at hj
    subst hj
    simp [Addr.add_lit]

theorem owns_grown {w w1 : World} {o : Obj} {base : Nat} {v : Value} {n : Nat} {xs : List Value} (h : w.ownsRow base 5 1 v n xs) (hg : (w.alloc o).grownBy w1 v.ownBlock) {w0 : World} (hb : Below w0.heap.size w0 w) (hbase : w0.heap.size ≤ base) : Below w0.heap.size w0 w1 :=
  (hb.alloc hb.size o).grown hg (by simp; exact Nat.le_succ_of_le hb.size) (fun j hj => Nat.le_trans hbase (h.lt j hj).1)

set_option maxHeartbeats 1600000 in
set_option maxRecDepth 1000000 in
theorem lent_any {w : World} {s : Value} {l : List UInt8} (h : Reads w s l) (hlen : l.length ≤ 140737488351232) :
    Calls Try.prog 51 #[s] w fun e w' => ∃ v, e = .returned v ∧ w'.ownsRow w.heap.size 5 1 v (behind l 8).length (cellsB (behind l 8)) ∧ Below w.heap.size w w' := by
  obtain ⟨i0, hi, hz0, hz1, hz2⟩ := info_parts Try.info5
  have HH := hid h
  obtain ⟨ao, c, hf⟩ := h.form
  subst hf
  clear h
  go_enter Try.func51, Try.ntmps51
  go_wp2_with fail
  refine (lcopied_any HH.out (by omega)).mono ?_
  rintro e w1 ⟨v, rfl, hown, hb⟩
  have R0 := hid (show w1.ownsRow w.heap.size 5 1 v (l.length + 0) (cellsB (behind l 0)) ∧ Below w.heap.size w w1 from ⟨by rw [behind_zero]; exact hown, hb⟩)
  obtain ⟨x, y, hv⟩ := owns_form hown
  subst hv
  clear hown hb
  go_wp2
  go_loopw [3, 4] (fun bv iv wr => ∃ j : Nat, j ≤ 8 ∧ iv = .int .i64 (j : Int) ∧ Hid (wr.ownsRow w.heap.size 5 1 bv (l.length + j) (cellsB (behind l j)) ∧ Below w.heap.size w wr)) (fun _ iv _ => 8 - (intOf iv).toNat)
  case atStart => exact ⟨0, by omega, rfl, R0⟩
  case round =>
    obtain ⟨j, hj, rfl, hrel⟩ := hrel
    obtain ⟨x, y, hv⟩ := owns_form hrel.out.1
    subst hv
    by_cases hlt : j < 8
    · have hrow := hrel.out.1.alloc (.cells #[.int .u8 165] 5)
      have hnew := one_newL wr 165
      have hsz := hrel.out.2.size
      have HR := hid hrel.out
      clear hrel R0
      go_wp2_with (at_builtin; refine wpList_append_own_at _ rfl (.tmp 11) (.tmp 12) 31 rfl w.heap.size 5 i0 (.int .u8 0) 1 1 Try.underlying31 hi hz0 hz1 hz2 rfl (by decide) _ _ _ rfl hrow ⟨wr.heap.size, 0, none⟩ 1 1 [.int .u8 165] rfl rfl hnew (fun u hu => by simp at hu; subst hu; rfl) (by unfold maxLen; omega) (by omega) (by simp; omega) ?_)
      intro v' w2 hown hg hnil hat
      have R := hid (show w2.ownsRow w.heap.size 5 1 v' (l.length + (j + 1)) (cellsB (behind l (j + 1))) ∧ Below w.heap.size w w2 from ⟨by rw [behind_succ]; exact hown, owns_grown HR.out.1 hg HR.out.2 (Nat.le_refl _)⟩)
      obtain ⟨x, y, hv⟩ := owns_form hown
      subst hv
      clear hown hg hnil hat hrow hnew HR
      go_wp2
      go_roundw
      case rel => exact ⟨j + 1, by omega, by go_num, R⟩
      case measure => simp [intOf]; omega
    · have R := hid (show wr.ownsRow w.heap.size 5 1 (.slice x (l.length + j) y) (behind l 8).length (cellsB (behind l 8)) ∧ Below w.heap.size w wr from by
        have hj8 : j = 8 := by omega
        subst hj8
        rw [behind_len]; exact hrel.out)
      clear hrel R0
      go_wp2
      go_ret
      exact ⟨_, rfl, R.out⟩

set_option maxHeartbeats 3200000 in
set_option maxRecDepth 1000000 in
theorem still_any {w : World} {s t : Value} {l : List UInt8} (hs : Reads w s (behind l 8)) (ht : Reads w t l) (hlen : l.length ≤ 140737488351232) :
    Calls Try.prog 52 #[s, t] w fun e w' => e = .returned (.bool true) ∧ ∃ q, w' = w.drewN q := by
  obtain ⟨ao, c, hf⟩ := hs.form
  obtain ⟨ao', c', hf'⟩ := ht.form
  subst hf hf'
  have HS := hid hs
  have HT := hid ht
  rw [behind_len] at HS ⊢
  clear hs ht
  go_enter Try.func52, Try.ntmps52
  go_wp2
  go_loopw [5] (fun iv wr => ∃ (k q : Nat), k ≤ l.length + 8 ∧ iv = .int .i64 (k : Int) ∧ wr = w.drewN q) (fun iv _ => l.length + 8 - (intOf iv).toNat)
  case atStart => exact ⟨0, 0, by omega, rfl, rfl⟩
  case round =>
    obtain ⟨k, q, hk, rfl, rfl⟩ := hrel
    by_cases hlt : k < l.length + 8
    · obtain ⟨g, o, rfl, h1⟩ := HS.out.at_u8 k (by rw [behind_len]; exact hlt)
      by_cases hlow : k < l.length
      · obtain ⟨g', o', rfl, h2⟩ := HT.out.at_u8 k hlow
        rw [behind_low l k hlow] at h1
        obtain ⟨x, hx⟩ : ∃ x : Nat, x = (l.getD k 0).toNat := ⟨_, rfl⟩
        rw [← hx] at h1 h2
        clear hx
        have hb : ((x : Int) != (x : Int)) = false := by simp
        have hb2 : (k : Int) < (l.length : Int) := by omega
        have hb3 : decide (l.length ≤ k) = false := by simp; omega
        go_wp2_with fail
        go_quiet (fail)
        go_wp2
        go_roundw
        case rel => exact ⟨k + 1, _, by omega, by go_num, rfl⟩
        case measure => simp [intOf]; omega
      · rw [behind_high l k (by omega) hlt] at h1
        have hb2 : decide ((k : Int) < (l.length : Int)) = false := by simp; omega
        have hb4 : decide (k < l.length) = false := by simp; omega
        have hb3 : (l.length : Int) ≤ (k : Int) := by omega
        have h1' : w.cell? ⟨g, o + k, none⟩ = some (.int .u8 165) := h1
        clear h1
        go_wp2_with fail
        go_quiet (fail)
        go_wp2
        go_roundw
        case rel => exact ⟨k + 1, _, by omega, by go_num, rfl⟩
        case measure => simp [intOf]; omega
    · go_wp2
      go_ret
      exact ⟨rfl, q, rfl⟩
end Go.Proofs.Ytpfpamkbahgkpaa

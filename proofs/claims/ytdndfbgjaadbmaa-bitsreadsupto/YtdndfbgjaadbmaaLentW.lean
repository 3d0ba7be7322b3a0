import Derived.Test.YtdndfbgjaadbmaaStill
namespace Go.Proofs.Ytdndfbgjaadbmaa
open Go.RowKit
set_option linter.unusedVariables false

theorem copy_runs_w {w1 : World} (H dLen dCap : Nat) (l : List UInt8) (ao : Option Addr) (c : Nat) (cur : Array Value) (h : ReadsW w1 (.slice ao l.length c) l) (hg : w1.heap[H]? = some (.cells cur 5 (0, 0))) (hd : l.length ≤ dLen) (hc : l.length ≤ cur.size) :
    ∃ wz, (Builtin.copy_ #[37, 37] 3 #[.slice (some ⟨H, 0, none⟩) dLen dCap, .slice ao l.length c]).run Try.prog w1 = .ok (.int .i64 (l.length : Int)) wz ∧ wz.heap[H]? = some (.cells (cellsB l ++ cur.toList.drop l.length).toArray 5 (0, 0)) ∧ Fr [H] w1 wz := by
  rcases h with h | ⟨rfl, a, c2, e⟩
  · exact copy_runs H dLen dCap l ao c cur h hg hd hc
  · obtain ⟨i0, hi, hz0, hz1, hz2⟩ := info_parts Try.info5
    simp only [Value.slice.injEq] at e
    obtain ⟨rfl, _, rfl⟩ := e
    have hr := run_copy_row (P := Try.prog) w1 37 37 3 5 H 0 dLen dCap a 0 c cur 5 [] Try.underlying37 (by rw [hi]; simp [hz1]) hg (by simp) (by simp) (by simp) (by simp)
    refine ⟨_, hr, ?_, ⟨rfl, rfl, rfl, by simp, fun k _ hk => setRow_other w1 H k _ (by simpa using hk)⟩⟩
    rw [setRow_heap w1 H cur _ 5 (0, 0) hg]
    simp [cellsB]

set_option maxHeartbeats 1600000 in
set_option maxRecDepth 1000000 in
theorem lent_w {w : World} {s : Value} {l : List UInt8} (h : ReadsW w s l) (hlen : l.length ≤ 140737488350000) :
    Calls Try.prog 19 #[s] w fun e w' => e = .returned (.slice (some ⟨w.heap.size, 0, none⟩) (l.length + 8) (l.length + 8)) ∧ w'.ownsRow w.heap.size 5 1 (.slice (some ⟨w.heap.size, 0, none⟩) (l.length + 8) (l.length + 8)) (behind l 8).length (cellsB (behind l 8)) ∧ Below w.heap.size w w' := by
  obtain ⟨i0, hi, hz0, hz1, hz2⟩ := info_parts Try.info5
  have HH := hid h
  obtain ⟨ao, c, hf⟩ := h.form
  subst hf
  clear h
  go_enter Try.func19, Try.ntmps19
  go_wp2_with (at_make; refine wpList_make_full _ rfl (.tmp 7) (.tmp 7) 37 rfl w.heap.size 5 i0 (.int .u8 0) 1 Try.underlying37 hi hz0 hz1 .i64 .i64 _ _ (l.length + 8) rfl rfl (by simp) (by simp) (by rw [hz2]; omega) (by unfold maxLen; omega) (Nat.le_refl _) ?_)
  intro w1 hown hgr
  have hb1 : Below w.heap.size w w1 := (Below.refl _ _).grown hgr (Nat.le_refl _) (fun k hk => by cases hk)
  obtain ⟨cur, hcur, hcl⟩ : ∃ cur : Array Value, w1.heap[w.heap.size]? = some (.cells cur 5 (0, 0)) ∧ cur.size = l.length + 8 := by
    rcases hown.2 with ⟨e, _⟩ | ⟨g, cap, cur, e, _, hgg, _, _, hcs, _⟩
    · simp at e
    · simp only [Value.slice.injEq, Option.some.injEq, Addr.mk.injEq, and_true, true_and] at e
      obtain ⟨rfl, rfl⟩ := e
      exact ⟨cur, hgg, by simpa using hcs⟩
  obtain ⟨wz, hrun, hrow, hfr⟩ := copy_runs_w w.heap.size (l.length + 8) (l.length + 8) l ao c cur (HH.out.below hb1) hcur (by omega) (by omega)
  have L0 : Hid (LentAt wz w.heap.size l 0 ∧ Below w.heap.size w wz) := by
    refine ⟨⟨cur.toList.drop l.length, by simp; omega, by rw [hrow]; simp [behind]⟩, ⟨hfr.os.trans hb1.os, hfr.tape.trans hb1.tape, hfr.output.trans hb1.output, Nat.le_trans hb1.size hfr.size, fun k hk => (hfr.block k (Nat.lt_of_lt_of_le hk hb1.size) (by simp; omega)).trans (hb1.block k hk)⟩⟩
  clear hown hgr hb1 hrow hfr hcur
  go_wp2
  go_loopw [4] (fun iv wr => ∃ j : Nat, j ≤ 8 ∧ iv = .int .i64 ((l.length + j : Nat) : Int) ∧ Hid (LentAt wr w.heap.size l j ∧ Below w.heap.size w wr)) (fun iv _ => l.length + 8 - (intOf iv).toNat)
  case atStart => exact ⟨0, by omega, rfl, L0⟩
  case round =>
    obtain ⟨j, hj, rfl, hrel⟩ := hrel
    by_cases hlt : j < 8
    · obtain ⟨⟨u, q0⟩, q1, q2⟩ := hrel.out.1.next hlt
      have R : Hid (LentAt (wr.setCell ⟨w.heap.size, l.length + j, none⟩ (.int .u8 165)) w.heap.size l (j + 1) ∧ Below w.heap.size w (wr.setCell ⟨w.heap.size, l.length + j, none⟩ (.int .u8 165))) := ⟨q2, hrel.out.2.setCell (by simp) _⟩
      clear q2 hrel L0 hrun
      go_wp2
      go_roundw
      case rel => exact ⟨j + 1, by omega, by go_num, R⟩
      case measure => simp [intOf]; omega
    · have R : Hid (wr.ownsRow w.heap.size 5 1 (.slice (some ⟨w.heap.size, 0, none⟩) (l.length + 8) (l.length + 8)) (behind l 8).length (cellsB (behind l 8)) ∧ Below w.heap.size w wr) := by
        have hj8 : j = 8 := by omega
        subst hj8
        obtain ⟨rest, hr, hh⟩ := hrel.out.1
        have e0 : rest = [] := List.eq_nil_of_length_eq_zero (by omega)
        subst e0
        refine ⟨⟨by rw [cellsB_length]; omega, Or.inr ⟨w.heap.size, l.length + 8, _, by rw [behind_len], Nat.le_refl _, hh, by rw [behind_len]; exact Nat.le_refl _, by unfold maxLen; omega, ?_, ?_⟩⟩, hrel.out.2⟩
        · simp [cellsB_length, behind_len]
        · rw [List.append_nil, List.take_of_length_le (by rw [cellsB_length]; omega)]
      clear hrel L0 hrun
      go_wp2
      go_ret
      exact ⟨rfl, R.out.1, R.out.2⟩


set_option maxHeartbeats 3200000 in
set_option maxRecDepth 1000000 in
theorem still_w {w : World} {s t : Value} {l : List UInt8} (hs : Reads w s (behind l 8)) (ht : ReadsW w t l) (hlen : l.length ≤ 140737488350000) :
    Calls Try.prog 22 #[s, t] w fun e w' => e = .returned (.bool true) ∧ ∃ q, w' = w.drewN q := by
  obtain ⟨ao, c, hf⟩ := hs.form
  obtain ⟨ao', c', hf'⟩ := ht.form
  subst hf hf'
  have HS := hid hs
  have HT := hid ht
  rw [behind_len] at HS ⊢
  clear hs ht
  go_enter Try.func22, Try.ntmps22
  go_wp2
  go_loopw [5] (fun iv wr => ∃ (k q : Nat), k ≤ l.length + 8 ∧ iv = .int .i64 (k : Int) ∧ wr = w.drewN q) (fun iv _ => l.length + 8 - (intOf iv).toNat)
  case atStart => exact ⟨0, 0, by omega, rfl, rfl⟩
  case round =>
    obtain ⟨k, q, hk, rfl, rfl⟩ := hrel
    by_cases hlt : k < l.length + 8
    · obtain ⟨g, o, rfl, h1⟩ := HS.out.at_u8 k (by rw [behind_len]; exact hlt)
      by_cases hlow : k < l.length
      · obtain ⟨g', o', rfl, h2⟩ := HT.out.at_u8 k hlow
        rw [behind_low l k hlow] at h1
        obtain ⟨x, hx⟩ : ∃ x : Nat, x = (l.getD k 0).toNat := ⟨_, rfl⟩
        rw [← hx] at h1 h2
        clear hx
        have hb : ((x : Int) != (x : Int)) = false := by simp
        have hb2 : (k : Int) < (l.length : Int) := by omega
        have hb3 : decide (l.length ≤ k) = false := by simp; omega
        go_wp2_with fail
        go_quiet (fail)
        go_wp2
        go_roundw
        case rel => exact ⟨k + 1, _, by omega, by go_num, rfl⟩
        case measure => simp [intOf]; omega
      · rw [behind_high l k (by omega) hlt] at h1
        have hb2 : decide ((k : Int) < (l.length : Int)) = false := by simp; omega
        have hb4 : decide (k < l.length) = false := by simp; omega
        have hb3 : (l.length : Int) ≤ (k : Int) := by omega
        have h1' : w.cell? ⟨g, o + k, none⟩ = some (.int .u8 165) := h1
        clear h1
        go_wp2_with fail
        go_quiet (fail)
        go_wp2
        go_roundw
        case rel => exact ⟨k + 1, _, by omega, by go_num, rfl⟩
        case measure => simp [intOf]; omega
    · go_wp2
      go_ret
      exact ⟨rfl, q, rfl⟩

end Go.Proofs.Ytdndfbgjaadbmaa

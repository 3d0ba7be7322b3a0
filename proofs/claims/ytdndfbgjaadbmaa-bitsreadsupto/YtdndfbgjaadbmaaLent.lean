import Derived.Test.YtdndfbgjaadbmaaXWriter
namespace Go.Proofs.Ytdndfbgjaadbmaa
open Go.RowKit
set_option linter.unusedVariables false

/-- What is behind a list that is lent. -/
def behind (l : List UInt8) (j : Nat) : List UInt8 := l ++ List.replicate j 165

theorem behind_len (l : List UInt8) (j : Nat) : (behind l j).length = l.length + j := by simp [behind]

theorem behind_next (l : List UInt8) (j : Nat) (r : Value) (rs : List Value) : (cellsB (behind l j) ++ r :: rs).toArray.setIfInBounds (l.length + j) (.int .u8 165) = (cellsB (behind l (j + 1)) ++ rs).toArray := by
  have e : l.length + j = (cellsB (behind l j)).length := by rw [cellsB_length, behind_len]
  have e2 : cellsB (behind l (j + 1)) = cellsB (behind l j) ++ [.int .u8 165] := by
    unfold behind
    rw [List.replicate_succ', ← List.append_assoc, cellsB_append]
    rfl
  rw [e, e2]
  simp

/-- The list while it is laid. -/
def LentAt (w : World) (H : Nat) (l : List UInt8) (j : Nat) : Prop := ∃ rest : List Value, rest.length + j = 8 ∧ w.heap[H]? = some (.cells (cellsB (behind l j) ++ rest).toArray 5 (0, 0))

theorem LentAt.next {w : World} {H : Nat} {l : List UInt8} {j : Nat} (h : LentAt w H l j) (hj : j < 8) : (∃ u, w.cell? ⟨H, l.length + j, none⟩ = some u) ∧ w.frozen? ⟨H, l.length + j, none⟩ = false ∧ LentAt (w.setCell ⟨H, l.length + j, none⟩ (.int .u8 165)) H l (j + 1) := by
  obtain ⟨rest, hr, hh⟩ := h
  cases rest with
  | nil => simp at hr; omega
  | cons r rs =>
    refine ⟨⟨r, ?_⟩, free_at hh _, rs, by simp at hr; omega, ?_⟩
    · rw [cell_at hh]
      have e : l.length + j = (cellsB (behind l j)).length := by rw [cellsB_length, behind_len]
      rw [e]
      simp
    · rw [heap_setCell_same hh, behind_next]

set_option maxHeartbeats 1600000 in
set_option maxRecDepth 1000000 in
theorem lent_any {w : World} {s : Value} {l : List UInt8} (h : Reads w s l) (hlen : l.length ≤ 140737488350000) :
    Calls Try.prog 19 #[s] w fun e w' => e = .returned (.slice (some ⟨w.heap.size, 0, none⟩) (l.length + 8) (l.length + 8)) ∧ w'.ownsRow w.heap.size 5 1 (.slice (some ⟨w.heap.size, 0, none⟩) (l.length + 8) (l.length + 8)) (behind l 8).length (cellsB (behind l 8)) ∧ Below w.heap.size w w' := by
  obtain ⟨i0, hi, hz0, hz1, hz2⟩ := info_parts Try.info5
  have HH := hid h
  obtain ⟨ao, c, hf⟩ := h.form
  subst hf
  clear h
  go_enter Try.func19, Try.ntmps19
  go_wp2_with (at_make; refine wpList_make_full _ rfl (.tmp 7) (.tmp 7) 37 rfl w.heap.size 5 i0 (.int .u8 0) 1 Try.underlying37 hi hz0 hz1 .i64 .i64 _ _ (l.length + 8) rfl rfl (by simp) (by simp) (by rw [hz2]; omega) (by unfold maxLen; omega) (Nat.le_refl _) ?_)
  intro w1 hown hgr
  have hb1 : Below w.heap.size w w1 := (Below.refl _ _).grown hgr (Nat.le_refl _) (fun k hk => by cases hk)
  obtain ⟨cur, hcur, hcl⟩ : ∃ cur : Array Value, w1.heap[w.heap.size]? = some (.cells cur 5 (0, 0)) ∧ cur.size = l.length + 8 := by
    rcases hown.2 with ⟨e, _⟩ | ⟨g, cap, cur, e, _, hgg, _, _, hcs, _⟩
    · simp at e
    · simp only [Value.slice.injEq, Option.some.injEq, Addr.mk.injEq, and_true, true_and] at e
      obtain ⟨rfl, rfl⟩ := e
      exact ⟨cur, hgg, by simpa using hcs⟩
  obtain ⟨wz, hrun, hrow, hfr⟩ := copy_runs w.heap.size (l.length + 8) (l.length + 8) l ao c cur (HH.out.below hb1) hcur (by omega) (by omega)
  have L0 : Hid (LentAt wz w.heap.size l 0 ∧ Below w.heap.size w wz) := by
    refine ⟨⟨cur.toList.drop l.length, by simp; omega, by rw [hrow]; simp [behind]⟩, ⟨hfr.os.trans hb1.os, hfr.tape.trans hb1.tape, hfr.output.trans hb1.output, Nat.le_trans hb1.size hfr.size, fun k hk => (hfr.block k (Nat.lt_of_lt_of_le hk hb1.size) (by simp; omega)).trans (hb1.block k hk)⟩⟩
  clear hown hgr hb1 hrow hfr hcur
  go_wp2
  go_loopw [4] (fun iv wr => ∃ j : Nat, j ≤ 8 ∧ iv = .int .i64 ((l.length + j : Nat) : Int) ∧ Hid (LentAt wr w.heap.size l j ∧ Below w.heap.size w wr)) (fun iv _ => l.length + 8 - (intOf iv).toNat)
  case atStart => exact ⟨0, by omega, rfl, L0⟩
  case round =>
    obtain ⟨j, hj, rfl, hrel⟩ := hrel
    by_cases hlt : j < 8
    · obtain ⟨⟨u, q0⟩, q1, q2⟩ := hrel.out.1.next hlt
      have R : Hid (LentAt (wr.setCell ⟨w.heap.size, l.length + j, none⟩ (.int .u8 165)) w.heap.size l (j + 1) ∧ Below w.heap.size w (wr.setCell ⟨w.heap.size, l.length + j, none⟩ (.int .u8 165))) := ⟨q2, hrel.out.2.setCell (by simp) _⟩
      clear q2 hrel L0 hrun
      go_wp2
      go_roundw
      case rel => exact ⟨j + 1, by omega, by go_num, R⟩
      case measure => simp [intOf]; omega
    · have R : Hid (wr.ownsRow w.heap.size 5 1 (.slice (some ⟨w.heap.size, 0, none⟩) (l.length + 8) (l.length + 8)) (behind l 8).length (cellsB (behind l 8)) ∧ Below w.heap.size w wr) := by
        have hj8 : j = 8 := by omega
        subst hj8
        obtain ⟨rest, hr, hh⟩ := hrel.out.1
        have e0 : rest = [] := List.eq_nil_of_length_eq_zero (by omega)
        subst e0
        refine ⟨⟨by rw [cellsB_length]; omega, Or.inr ⟨w.heap.size, l.length + 8, _, by rw [behind_len], Nat.le_refl _, hh, by rw [behind_len]; exact Nat.le_refl _, by unfold maxLen; omega, ?_, ?_⟩⟩, hrel.out.2⟩
        · simp [cellsB_length, behind_len]
        · rw [List.append_nil, List.take_of_length_le (by rw [cellsB_length]; omega)]
      clear hrel L0 hrun
      go_wp2
      go_ret
      exact ⟨rfl, R.out.1, R.out.2⟩

end Go.Proofs.Ytdndfbgjaadbmaa

import Derived.Test.YtdndfbgjaadbmaaSep
namespace Go.Proofs.Ytdndfbgjaadbmaa
open Go.RowKit
set_option linter.unusedVariables false

theorem copy_runs {w1 : World} (H dLen dCap : Nat) (l : List UInt8) (ao : Option Addr) (c : Nat) (cur : Array Value) (h : Reads w1 (.slice ao l.length c) l) (hg : w1.heap[H]? = some (.cells cur 5 (0, 0))) (hd : l.length ≤ dLen) (hc : l.length ≤ cur.size) :
    ∃ wz, (Builtin.copy_ #[37, 37] 3 #[.slice (some ⟨H, 0, none⟩) dLen dCap, .slice ao l.length c]).run Try.prog w1 = .ok (.int .i64 (l.length : Int)) wz ∧ wz.heap[H]? = some (.cells (cellsB l ++ cur.toList.drop l.length).toArray 5 (0, 0)) ∧ Fr [H] w1 wz := by
  obtain ⟨i0, hi, hz0, hz1, hz2⟩ := info_parts Try.info5
  obtain ⟨ao', c', e, _, hcase⟩ := h
  simp only [Value.slice.injEq] at e
  obtain ⟨rfl, _, rfl⟩ := e
  rcases hcase with ⟨rfl, rfl, rfl⟩ | ⟨g, o, rfl, hgg, hcell⟩
  · refine ⟨w1, ?_, by simpa [cellsB] using hg, Fr.refl _ _⟩
    exact run_copy_nil (P := Try.prog) w1 37 37 3 5 ⟨H, 0, none⟩ dLen dCap Try.underlying37 (by rw [hi]; rfl)
  · have hr := run_copy_row (P := Try.prog) w1 37 37 3 5 H 0 dLen dCap ⟨g, o, none⟩ l.length c cur 5 (cellsB l) Try.underlying37 (by rw [hi]; simp [hz1]) hg (by rw [cellsB_length]; exact (Nat.min_eq_left hd).symm) (by simpa [Addr.add_lit] using hcell) (by rw [cellsB_length]; omega) (cellsB_one _)
    rw [cellsB_length] at hr
    refine ⟨_, hr, ?_, ⟨rfl, rfl, rfl, by simp, fun k _ hk => setRow_other w1 H k _ (by simpa using hk)⟩⟩
    rw [setRow_heap w1 H cur _ 5 (0, 0) hg]
    simp

set_option maxHeartbeats 1600000 in
set_option maxRecDepth 1000000 in
theorem copied_any {w : World} {s : Value} {l : List UInt8} (h : Reads w s l) (hlen : l.length ≤ 140737488355328) :
    Calls Try.prog 46 #[s] w fun e w' => e = .returned (.slice (some ⟨w.heap.size, 0, none⟩) l.length l.length) ∧ w'.ownsRow w.heap.size 5 1 (.slice (some ⟨w.heap.size, 0, none⟩) l.length l.length) l.length (cellsB l) ∧ Below w.heap.size w w' := by
  obtain ⟨i0, hi, hz0, hz1, hz2⟩ := info_parts Try.info5
  have HH := hid h
  obtain ⟨ao, c, hf⟩ := h.form
  subst hf
  clear h
  go_enter Try.func46, Try.ntmps46
  go_wp2_with (at_make; refine wpList_make_full _ rfl (.tmp 5) (.tmp 5) 37 rfl w.heap.size 5 i0 (.int .u8 0) 1 Try.underlying37 hi hz0 hz1 .i64 .i64 _ _ l.length rfl rfl rfl rfl (by rw [hz2]; omega) (by unfold maxLen; omega) (Nat.le_refl _) ?_)
  intro w1 hown hgr
  have hb1 : Below w.heap.size w w1 := (Below.refl _ _).grown hgr (Nat.le_refl _) (fun k hk => by cases hk)
  obtain ⟨cur, hcur, hcl⟩ : ∃ cur : Array Value, w1.heap[w.heap.size]? = some (.cells cur 5 (0, 0)) ∧ cur.size = l.length := by
    rcases hown.2 with ⟨e, _⟩ | ⟨g, cap, cur, e, _, hgg, _, _, hcs, _⟩
    · simp at e
    · simp only [Value.slice.injEq, Option.some.injEq, Addr.mk.injEq, and_true, true_and] at e
      obtain ⟨rfl, rfl⟩ := e
      exact ⟨cur, hgg, by simpa using hcs⟩
  obtain ⟨wz, hrun, hrow, hfr⟩ := copy_runs w.heap.size l.length l.length l ao c cur (HH.out.below hb1) hcur (Nat.le_refl _) (by omega)
  have R : Hid (wz.ownsRow w.heap.size 5 1 (.slice (some ⟨w.heap.size, 0, none⟩) l.length l.length) l.length (cellsB l) ∧ Below w.heap.size w wz) := by
    refine ⟨⟨by rw [cellsB_length]; omega, Or.inr ⟨w.heap.size, l.length, _, rfl, Nat.le_refl _, hrow, Nat.le_refl _, by unfold maxLen; omega, ?_, ?_⟩⟩, ⟨hfr.os.trans hb1.os, hfr.tape.trans hb1.tape, hfr.output.trans hb1.output, Nat.le_trans hb1.size hfr.size, fun k hk => (hfr.block k (Nat.lt_of_lt_of_le hk hb1.size) (by simp; omega)).trans (hb1.block k hk)⟩⟩
    · simp [cellsB_length, hcl]
    · simp [cellsB_length]
  clear hown hgr hb1 hrow hfr hcur
  go_wp2
  go_ret
  exact ⟨rfl, R.out.1, R.out.2⟩

end Go.Proofs.Ytdndfbgjaadbmaa

import Derived.Test.YtagdpfghooogfaaKLast
namespace Go.Proofs.Ytagdpfghooogfaa
open Go.RowKit
set_option linter.unusedVariables false

theorem made_ones (z : Value) (hz : z.cells = #[z]) (n : Nat) : madeCells z.cells (n * 1) = (List.replicate n z).toArray := by
  rw [hz, Nat.mul_one]
  apply Array.ext
  · simp [size_madeCells]
  · intro i h1 h2
    simp [madeCells, Nat.mod_one]

theorem make_slices {w : World} (n : Nat) (hn : n * 24 ≤ 281474976710656) : (Instr.makeSlice 32 (.int .i64 n) (.int .i64 n)).run Try.prog w = .ok (.slice (some ⟨w.heap.size, 0, none⟩) n n) (w.alloc (.cells (List.replicate n (.slice none 0 0)).toArray 40)) := by
  obtain ⟨i0, hi, hz0, hz1, hz2⟩ := info_parts Try.info40'
  have h := run_make (P := Try.prog) w 32 40 i0 (.slice none 0 0) Try.underlying32 hi hz0 .i64 .i64 n n (by omega) (by omega) (by rw [hz2]; omega) (by omega)
  rw [hz1, Int.toNat_natCast, made_ones (.slice none 0 0) rfl] at h
  exact h
theorem make_bytes {w : World} (n : Nat) (hn : n ≤ 281474976710656) : (Instr.makeSlice 40 (.int .i64 n) (.int .i64 n)).run Try.prog w = .ok (.slice (some ⟨w.heap.size, 0, none⟩) n n) (w.alloc (.cells (List.replicate n (.int .u8 0)).toArray 5)) := by
  obtain ⟨i0, hi, hz0, hz1, hz2⟩ := info_parts Try.info5
  have h := run_make (P := Try.prog) w 40 5 i0 (.int .u8 0) Try.underlying40 hi hz0 .i64 .i64 n n (by omega) (by omega) (by rw [hz2]; omega) (by omega)
  rw [hz1, Int.toNat_natCast, made_ones (.int .u8 0) rfl] at h
  exact h

theorem ReadsW.below {w w' : World} {s : Value} {l : List UInt8} (h : ReadsW w s l) (hb : Below w.heap.size w w') : ReadsW w' s l := h.imp (fun h => h.below hb) id
theorem conv_stringW {w : World} {s : Value} {l : List UInt8} (h : ReadsW w s l) : (convert 40 9 s).run Try.prog w = .ok (.string (strB l)) w := by
  rcases h with h | ⟨rfl, a, c, rfl⟩
  · exact conv_string h
  · rw [run_convert_bytes_string w 40 9 5 (some a) 0 c Try.underlying40 Try.underlying5 Try.underlying9]
    rfl
set_option maxHeartbeats 1000000 in
set_option maxRecDepth 1000000 in
theorem same_anyW {w : World} {s t : Value} {l m : List UInt8} (hs : Reads w s l) (ht : ReadsW w t m) : Calls Try.prog 26 #[s, t] w fun e w' => e = .returned (.bool (decide (l = m))) ∧ w' = w := by
  have g1 := conv_string hs
  have g2 := conv_stringW ht
  obtain ⟨a1, c1, rfl⟩ := hs.form
  obtain ⟨a2, c2, rfl⟩ := ht.form
  have e : ((strB l).toList == (strB m).toList) = decide (l = m) := by
    by_cases h : l = m
    · subst h; simp
    · have : (strB l).toList ≠ (strB m).toList := fun e => h (strB_inj (toList_inj e))
      simp [h, this]
  have F : Hid (((strB l).toList == (strB m).toList) = decide (l = m)) := hid e
  generalize strB l = x1 at *
  generalize strB m = x2 at *
  generalize l.length = n1 at *
  generalize m.length = n2 at *
  clear hs ht e
  generalize hq : (x1.toList == x2.toList) = q at F
  go_enter Try.func26, Try.ntmps26
  go_wp2
  go_ret
  exact ⟨by rw [← F.out]; rfl, rfl⟩

/-- Copying bytes into a row that lies alone. -/
theorem copy_bytes {w1 : World} (H dLen dCap : Nat) (l : List UInt8) (ao : Option Addr) (c : Nat) (suf : List Value) (h : ReadsW w1 (.slice ao l.length c) l) (hg : w1.heap[H]? = some (.cells suf.toArray 5 (0, 0))) (hd : l.length ≤ dLen) (hc : l.length ≤ suf.length) :
    ∃ wz, (Builtin.copy_ #[40, 40] 3 #[.slice (some ⟨H, 0, none⟩) dLen dCap, .slice ao l.length c]).run Try.prog w1 = .ok (.int .i64 (l.length : Int)) wz ∧ wz.heap[H]? = some (.cells (cellsB l ++ suf.drop l.length).toArray 5 (0, 0)) ∧ Fr [H] w1 wz := by
  obtain ⟨i0, hi, hz0, hz1, hz2⟩ := info_parts Try.info5
  have key : ∀ a : Addr, (∀ j u, (cellsB l)[j]? = some u → w1.cell? (a.add j) = some u) → ∃ wz, (Builtin.copy_ #[40, 40] 3 #[.slice (some ⟨H, 0, none⟩) dLen dCap, .slice (some a) l.length c]).run Try.prog w1 = .ok (.int .i64 (l.length : Int)) wz ∧ wz.heap[H]? = some (.cells (cellsB l ++ suf.drop l.length).toArray 5 (0, 0)) ∧ Fr [H] w1 wz := fun a hcell => by
    have hr := run_copy_row (P := Try.prog) w1 40 40 3 5 H 0 dLen dCap a l.length c suf.toArray 5 (cellsB l) Try.underlying40 (by rw [hi]; simp [hz1]) hg (by rw [cellsB_length]; exact (Nat.min_eq_left hd).symm) hcell (by rw [cellsB_length]; simp; omega) (cellsB_one _)
    rw [cellsB_length] at hr
    refine ⟨_, hr, ?_, ⟨rfl, rfl, rfl, by simp, fun k _ hk => setRow_other w1 H k _ (by simpa using hk)⟩⟩
    rw [setRow_heap w1 H _ _ 5 (0, 0) hg]
    simp
  rcases h with h | ⟨hl, a, c', e⟩
  case inr =>
    subst hl
    simp only [Value.slice.injEq] at e
    obtain ⟨rfl, _, rfl⟩ := e
    exact key a (by simp [cellsB])
  obtain ⟨ao', c', e, _, hcase⟩ := h
  simp only [Value.slice.injEq] at e
  obtain ⟨rfl, _, rfl⟩ := e
  rcases hcase with ⟨rfl, rfl, rfl⟩ | ⟨g, o, rfl, hgg, hcell⟩
  · refine ⟨w1, ?_, by simpa [cellsB] using hg, ⟨rfl, rfl, rfl, Nat.le_refl _, fun _ _ _ => rfl⟩⟩
    exact run_copy_nil (P := Try.prog) w1 40 40 3 5 ⟨H, 0, none⟩ dLen dCap Try.underlying40 (by rw [hi]; rfl)
  · exact key _ (by simpa [Addr.add_lit] using hcell)

/-- A copy, in a region that draws. -/
theorem step_copy {P : Program} {w : World} {ops : Array Oper} {o : Oper} {a : Act} {K : Act → World → Prop} {Q : Exit → Act → World → Prop} {E : Prop} (hgd : o.guard = none) (s x : Operand) (dT sT : TypeId)
    (ho : o.op = .call { callee := .builtin .copy, args := #[s, x], argTypes := #[dT, sT] }) (v : Value) (wz : World)
    (hr : (Builtin.copy_ #[dT, sT] o.type #[a.eval s, a.eval x]).run P w = .ok v wz) (h : K (a.put o.dst v) wz) :
    if Region.wanted o (yielded ops a.tmps) = true then Oper.wp P o a w K Q else E := by
  have hw : Region.wanted o (yielded ops a.tmps) = true := by simp [Region.wanted, hgd]
  rw [if_pos hw]
  unfold Oper.wp execOp
  simp only [ho, resolve, invoke, builtin, Sem.run_bind, Sem.run_pure, Result.andThen_ok, List.map_toArray, List.map_cons, List.map_nil, hr]
  exact h
end Go.Proofs.Ytagdpfghooogfaa

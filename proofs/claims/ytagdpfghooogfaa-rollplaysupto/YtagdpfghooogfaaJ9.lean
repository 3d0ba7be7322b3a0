import Derived.Test.YtagdpfghooogfaaKLast
import Derived.Test.YtagdpfghooogfaaJ7
namespace Go.Proofs.Ytagdpfghooogfaa
open Go.RowKit
set_option linter.unusedVariables false

theorem made_ones (z : Value) (hz : z.cells = #[z]) (n : Nat) : madeCells z.cells (n * 1) = (List.replicate n z).toArray := by
  rw [hz, Nat.mul_one]
  apply Array.ext
  · simp [size_madeCells]
  · intro i h1 h2
    simp [madeCells, Nat.mod_one]

theorem make_slices {w : World} (n : Nat) (hn : n * 24 ≤ 281474976710656) : (Instr.makeSlice 32 (.int .i64 n) (.int .i64 n)).run Try.prog w = .ok (.slice (some ⟨w.heap.size, 0, none⟩) n n) (w.alloc (.cells (List.replicate n (.slice none 0 0)).toArray 40)) := by
  obtain ⟨i0, hi, hz0, hz1, hz2⟩ := info_parts Try.info40'
  have h := run_make (P := Try.prog) w 32 40 i0 (.slice none 0 0) Try.underlying32 hi hz0 .i64 .i64 n n (by omega) (by omega) (by rw [hz2]; omega) (by omega)
  rw [hz1, Int.toNat_natCast, made_ones (.slice none 0 0) rfl] at h
  exact h
theorem make_bytes {w : World} (n : Nat) (hn : n ≤ 281474976710656) : (Instr.makeSlice 40 (.int .i64 n) (.int .i64 n)).run Try.prog w = .ok (.slice (some ⟨w.heap.size, 0, none⟩) n n) (w.alloc (.cells (List.replicate n (.int .u8 0)).toArray 5)) := by
  obtain ⟨i0, hi, hz0, hz1, hz2⟩ := info_parts Try.info5
  have h := run_make (P := Try.prog) w 40 5 i0 (.int .u8 0) Try.underlying40 hi hz0 .i64 .i64 n n (by omega) (by omega) (by rw [hz2]; omega) (by omega)
  rw [hz1, Int.toNat_natCast, made_ones (.int .u8 0) rfl] at h
  exact h

theorem ReadsW.below {w w' : World} {s : Value} {l : List UInt8} (h : ReadsW w s l) (hb : Below w.heap.size w w') : ReadsW w' s l := h.imp (fun h => h.below hb) id
theorem conv_stringW {w : World} {s : Value} {l : List UInt8} (h : ReadsW w s l) : (convert 40 9 s).run Try.prog w = .ok (.string (strB l)) w := by
  rcases h with h | ⟨rfl, a, c, rfl⟩
  · exact conv_string h
  · rw [run_convert_bytes_string w 40 9 5 (some a) 0 c Try.underlying40 Try.underlying5 Try.underlying9]
    rfl
set_option maxHeartbeats 1000000 in
set_option maxRecDepth 1000000 in
theorem same_anyW {w : World} {s t : Value} {l m : List UInt8} (hs : Reads w s l) (ht : ReadsW w t m) : Calls Try.prog 26 #[s, t] w fun e w' => e = .returned (.bool (decide (l = m))) ∧ w' = w := by
  have g1 := conv_string hs
  have g2 := conv_stringW ht
  obtain ⟨a1, c1, rfl⟩ := hs.form
  obtain ⟨a2, c2, rfl⟩ := ht.form
  have e : ((strB l).toList == (strB m).toList) = decide (l = m) := by
    by_cases h : l = m
    · subst h; simp
    · have : (strB l).toList ≠ (strB m).toList := fun e => h (strB_inj (toList_inj e))
      simp [h, this]
  have F : Hid (((strB l).toList == (strB m).toList) = decide (l = m)) := hid e
  generalize strB l = x1 at *
  generalize strB m = x2 at *
  generalize l.length = n1 at *
  generalize m.length = n2 at *
  clear hs ht e
  generalize hq : (x1.toList == x2.toList) = q at F
  go_enter Try.func26, Try.ntmps26
  go_wp2
  go_ret
  exact ⟨by rw [← F.out]; rfl, rfl⟩

/-- Copying bytes into a row that lies alone. -/
theorem copy_bytes {w1 : World} (H dLen dCap : Nat) (l : List UInt8) (ao : Option Addr) (c : Nat) (suf : List Value) (h : ReadsW w1 (.slice ao l.length c) l) (hg : w1.heap[H]? = some (.cells suf.toArray 5 (0, 0))) (hd : l.length ≤ dLen) (hc : l.length ≤ suf.length) :
    ∃ wz, (Builtin.copy_ #[40, 40] 3 #[.slice (some ⟨H, 0, none⟩) dLen dCap, .slice ao l.length c]).run Try.prog w1 = .ok (.int .i64 (l.length : Int)) wz ∧ wz.heap[H]? = some (.cells (cellsB l ++ suf.drop l.length).toArray 5 (0, 0)) ∧ Fr [H] w1 wz := by
  obtain ⟨i0, hi, hz0, hz1, hz2⟩ := info_parts Try.info5
  have key : ∀ a : Addr, (∀ j u, (cellsB l)[j]? = some u → w1.cell? (a.add j) = some u) → ∃ wz, (Builtin.copy_ #[40, 40] 3 #[.slice (some ⟨H, 0, none⟩) dLen dCap, .slice (some a) l.length c]).run Try.prog w1 = .ok (.int .i64 (l.length : Int)) wz ∧ wz.heap[H]? = some (.cells (cellsB l ++ suf.drop l.length).toArray 5 (0, 0)) ∧ Fr [H] w1 wz := fun a hcell => by
    have hr := run_copy_row (P := Try.prog) w1 40 40 3 5 H 0 dLen dCap a l.length c suf.toArray 5 (cellsB l) Try.underlying40 (by rw [hi]; simp [hz1]) hg (by rw [cellsB_length]; exact (Nat.min_eq_left hd).symm) hcell (by rw [cellsB_length]; simp; omega) (cellsB_one _)
    rw [cellsB_length] at hr
    refine ⟨_, hr, ?_, ⟨rfl, rfl, rfl, by simp, fun k _ hk => setRow_other w1 H k _ (by simpa using hk)⟩⟩
    rw [setRow_heap w1 H _ _ 5 (0, 0) hg]
    simp
  rcases h with h | ⟨hl, a, c', e⟩
  case inr =>
    subst hl
    simp only [Value.slice.injEq] at e
    obtain ⟨rfl, _, rfl⟩ := e
    exact key a (by simp [cellsB])
  obtain ⟨ao', c', e, _, hcase⟩ := h
  simp only [Value.slice.injEq] at e
  obtain ⟨rfl, _, rfl⟩ := e
  rcases hcase with ⟨rfl, rfl, rfl⟩ | ⟨g, o, rfl, hgg, hcell⟩
  · refine ⟨w1, ?_, by simpa [cellsB] using hg, ⟨rfl, rfl, rfl, Nat.le_refl _, fun _ _ _ => rfl⟩⟩
    exact run_copy_nil (P := Try.prog) w1 40 40 3 5 ⟨H, 0, none⟩ dLen dCap Try.underlying40 (by rw [hi]; rfl)
  · exact key _ (by simpa [Addr.add_lit] using hcell)

/-- A copy, in a region that draws. -/
theorem step_copy {P : Program} {w : World} {ops : Array Oper} {o : Oper} {a : Act} {K : Act → World → Prop} {Q : Exit → Act → World → Prop} {E : Prop} (hgd : o.guard = none) (s x : Operand) (dT sT : TypeId)
    (ho : o.op = .call { callee := .builtin .copy, args := #[s, x], argTypes := #[dT, sT] }) (v : Value) (wz : World)
    (hr : (Builtin.copy_ #[dT, sT] o.type #[a.eval s, a.eval x]).run P w = .ok v wz) (h : K (a.put o.dst v) wz) :
    if Region.wanted o (yielded ops a.tmps) = true then Oper.wp P o a w K Q else E := by
  have hw : Region.wanted o (yielded ops a.tmps) = true := by simp [Region.wanted, hgd]
  rw [if_pos hw]
  unfold Oper.wp execOp
  simp only [ho, resolve, invoke, builtin, Sem.run_bind, Sem.run_pure, Result.andThen_ok, List.map_toArray, List.map_cons, List.map_nil, hr]
  exact h
end Go.Proofs.Ytagdpfghooogfaa

namespace Go.Proofs.Ytagdpfghooogfaa
open Go.RowKit
set_option linter.unusedVariables false

theorem make_texts {w : World} (n : Nat) (hn : n * 16 ≤ 281474976710656) : (Instr.makeSlice 35 (.int .i64 n) (.int .i64 n)).run Try.prog w = .ok (.slice (some ⟨w.heap.size, 0, none⟩) n n) (w.alloc (.cells (List.replicate n (.string (.mk #[]))).toArray 9)) := by
  obtain ⟨i0, hi, hz0, hz1, hz2⟩ := info_parts Try.info9
  have h := run_make (P := Try.prog) w 35 9 i0 (.string (.mk #[])) Try.underlying35 hi hz0 .i64 .i64 n n (by omega) (by omega) (by rw [hz2]; omega) (by omega)
  rw [hz1, Int.toNat_natCast, made_ones (.string (.mk #[])) rfl] at h
  exact h

/-- Copying texts into a row that lies alone. -/
theorem copy_texts {w1 : World} (H dLen dCap : Nat) (l : List ByteArray) (ao : Option Addr) (c : Nat) (suf : List Value) (h : Txts w1 (.slice ao l.length c) l) (hg : w1.heap[H]? = some (.cells suf.toArray 9 (0, 0))) (hd : l.length ≤ dLen) (hc : l.length ≤ suf.length) :
    ∃ wz, (Builtin.copy_ #[35, 35] 3 #[.slice (some ⟨H, 0, none⟩) dLen dCap, .slice ao l.length c]).run Try.prog w1 = .ok (.int .i64 (l.length : Int)) wz ∧ wz.heap[H]? = some (.cells (cellsT l ++ suf.drop l.length).toArray 9 (0, 0)) ∧ Fr [H] w1 wz := by
  obtain ⟨i0, hi, hz0, hz1, hz2⟩ := info_parts Try.info9
  have key : ∀ a : Addr, (∀ j u, (cellsT l)[j]? = some u → w1.cell? (a.add j) = some u) → ∃ wz, (Builtin.copy_ #[35, 35] 3 #[.slice (some ⟨H, 0, none⟩) dLen dCap, .slice (some a) l.length c]).run Try.prog w1 = .ok (.int .i64 (l.length : Int)) wz ∧ wz.heap[H]? = some (.cells (cellsT l ++ suf.drop l.length).toArray 9 (0, 0)) ∧ Fr [H] w1 wz := fun a hcell => by
    have hr := run_copy_row (P := Try.prog) w1 35 35 3 9 H 0 dLen dCap a l.length c suf.toArray 9 (cellsT l) Try.underlying35 (by rw [hi]; simp [hz1]) hg (by rw [cellsT_length]; exact (Nat.min_eq_left hd).symm) hcell (by rw [cellsT_length]; simp; omega) (cellsT_one _)
    rw [cellsT_length] at hr
    refine ⟨_, hr, ?_, ⟨rfl, rfl, rfl, by simp, fun k _ hk => setRow_other w1 H k _ (by simpa using hk)⟩⟩
    rw [setRow_heap w1 H _ _ 9 (0, 0) hg]
    simp
  obtain ⟨ao', c', e, _, hcase⟩ := h
  simp only [Value.slice.injEq] at e
  obtain ⟨rfl, _, rfl⟩ := e
  rcases hcase with rfl | ⟨g, o, rfl, hgg, hcell⟩
  · cases ao with
    | some a => exact key a (by simp [cellsT])
    | none =>
      refine ⟨w1, ?_, by simpa [cellsT] using hg, ⟨rfl, rfl, rfl, Nat.le_refl _, fun _ _ _ => rfl⟩⟩
      have hq : Try.prog.info? 9 = some i0 := hi
      simp [Builtin.copy_, run_underlying (P := Try.prog) Try.underlying35, Builtin.lenOf, Builtin.firstCells, sizeOf, typeInfo, hq, storeCells]
      rfl
  · refine key _ (fun j u hu => ?_)
    have hj : j < l.length := by have := (List.getElem?_eq_some_iff.1 hu).1; rw [cellsT_length] at this; exact this
    rw [Addr.add_lit, hcell j hj, ← hu]
    simp [cellsT, hj]

theorem res11 {tmps : Array Value} {w : World} {b : Nat} {n a c k : Int} {s v : Value} (ht : tmps.getD 2 undef = .pointer (some ⟨b, 0, none⟩)) (hv : tmps.getD 3 undef = v) (h : w.heap[b]? = some (.cells #[.int .i64 n, .int .i64 a, .int .i64 c, .int .i64 k, s] 39 (0, 0))) : (results Try.f11 tmps).run Try.prog w = .ok (.tuple #[rowV n a c k s, v]) w := by
  have hp' : tmps[2]?.getD undef = .pointer (some ⟨b, 0, none⟩) := by simpa using ht
  have hv' : tmps[3]?.getD undef = v := by simpa using hv
  have hres : Try.f11.results = #[.cell 2 39, .tmp 3] := rfl
  have x0 : w.cell? ⟨b, 0, none⟩ = some (.int .i64 n) := by rw [cell_at h]; rfl
  have x1 : w.cell? ⟨b, 1, none⟩ = some (.int .i64 a) := by rw [cell_at h]; rfl
  have x2 : w.cell? ⟨b, 2, none⟩ = some (.int .i64 c) := by rw [cell_at h]; rfl
  have x3 : w.cell? ⟨b, 3, none⟩ = some (.int .i64 k) := by rw [cell_at h]; rfl
  have x4 : w.cell? ⟨b, 4, none⟩ = some s := by rw [cell_at h]; rfl
  simp only [results, hres]
  go_simp

abbrev eS : Value := .string ⟨#[]⟩
def lentL (l : List ByteArray) (t : Nat) : List Value := cellsT l ++ (List.replicate t spS ++ List.replicate (3 - t) eS)
theorem lentL_len (l : List ByteArray) {t : Nat} (ht : t ≤ 3) : (lentL l t).length = l.length + 3 := by simp [lentL, cellsT_length]; omega
theorem lentL_set (l : List ByteArray) {t : Nat} (ht : t < 3) : (lentL l t).set (l.length + t) spS = lentL l (t + 1) := by
  unfold lentL
  rw [List.set_append_right _ _ (by rw [cellsT_length]; omega), cellsT_length, Nat.add_sub_cancel_left]
  have : t = 0 ∨ t = 1 ∨ t = 2 := by omega
  rcases this with rfl | rfl | rfl <;> rfl

set_option maxHeartbeats 3200000 in
set_option maxRecDepth 1000000 in
/-- A row is lent. -/
theorem lent_any {n a c k : Int} {s : Value} {l : List ByteArray} {cs : List Comp} {w : World} (hA : All cs w) (hT : ∀ w', All cs w' → Txts w' s l) (hl : l.length ≤ 1048576) : Calls Try.prog 11 #[rowV n a c k s] w fun e w' => ∃ H, e = .returned (.tuple #[rowV n a c k (.slice (some ⟨H, 0, none⟩) l.length (l.length + 3)), .slice (some ⟨H, 0, none⟩) (l.length + 3) (l.length + 3)]) ∧ Hid (All (blkC H (cellsT l ++ [spS, spS, spS]) 9 :: cs) w') := by
  obtain ⟨ao, cp, rfl⟩ := (hT w hA).form
  have HT := hid hT
  obtain ⟨m, hm⟩ : ∃ m, Hid (m = l.length) := ⟨_, hid rfl⟩
  have hm20 : m ≤ 1048576 := by rw [hm.out]; exact hl
  rw [← hm.out] at HT ⊢
  have wm : IntKind.i64.wrap ((m : Int) + 3) = (m : Int) + 3 := by rw [IntKind.wrap_i64]; omega
  have mk : ∀ W : World, (Instr.makeSlice 35 (.int .i64 ((m : Int) + 3)) (.int .i64 ((m : Int) + 3))).run Try.prog W = .ok (.slice (some ⟨W.heap.size, 0, none⟩) (m + 3) (m + 3)) (W.alloc (.cells (List.replicate (m + 3) (.string (.mk #[]))).toArray 9)) := fun W => make_texts (m + 3) (by omega)
  have A0 := hid (((hA.addBlk [.int .i64 n, .int .i64 a, .int .i64 c, .int .i64 k, .slice ao m cp] 39).addBlk [.int .i64 0, .int .i64 0, .int .i64 0, .int .i64 0, .slice none 0 0] 39).addBlk (List.replicate (m + 3) (.string (.mk #[]))) 9)
  simp only [World.size_alloc] at A0
  clear hA hT hl
  go_enter Try.func11, Try.ntmps11
  go_upto_region 3 with fail
  rw [show (List.replicate (m + 3) (Value.string (.mk #[]))).toArray = Array.replicate (m + 3) (Value.string (.mk #[])) by simp] at A0
  generalize hw1 : ((w.alloc (.cells #[.int .i64 n, .int .i64 a, .int .i64 c, .int .i64 k, .slice ao m cp] 39)).alloc (.cells #[.int .i64 0, .int .i64 0, .int .i64 0, .int .i64 0, .slice none 0 0] 39)).alloc (.cells (Array.replicate (m + 3) (Value.string (.mk #[]))) 9) = w1 at A0 ⊢
  generalize w.heap.size + 1 + 1 = H at A0 ⊢
  generalize w.heap.size + 1 = R2 at A0 ⊢
  generalize w.heap.size = R at A0 ⊢
  clear hw1 mk
  obtain ⟨wz, hcp, hHz, hfz⟩ := copy_texts (w1 := w1) H (m + 3) (m + 3) l ao cp (List.replicate (m + 3) (.string (.mk #[]))) (by have := HT.out w1 A0.out.tail.tail.tail; rw [hm.out] at this; exact this) A0.out.1.2.1 (by rw [← hm.out]; omega) (by rw [List.length_replicate, ← hm.out]; omega)
  rw [← hm.out] at hcp hHz
  have A1 : Hid (All (blkC H (lentL l 0) 9 :: blkC R2 [.int .i64 0, .int .i64 0, .int .i64 0, .int .i64 0, .slice none 0 0] 39 :: blkC R [.int .i64 n, .int .i64 a, .int .i64 c, .int .i64 k, .slice ao m cp] 39 :: cs) wz) := hid (by
    refine A0.out.turn (c' := blkC H (lentL l 0) 9) hfz (blkC_good _ _ _) (by
      show wz.heap[H]? = _
      rw [hHz]
      congr 2
      have : (List.replicate (m + 3) (Value.string (.mk #[]))).drop m = [eS, eS, eS] := by rw [List.drop_replicate, Nat.add_sub_cancel_left]; rfl
      rw [this]
      rfl) (fun k hk => Or.inl hk) (fun k hk => by
      have : k = H := by simpa [blkC] using hk
      subst this
      exact (Array.getElem?_eq_some_iff.1 hHz).1))
  have eR : w1.heap[R]? = some (.cells #[.int .i64 n, .int .i64 a, .int .i64 c, .int .i64 k, .slice ao m cp] 39 (0, 0)) := A0.out.tail.tail.1.2.1
  have r4 : w1.cell? ⟨R, 4, none⟩ = some (.slice ao m cp) := by rw [cell_at eR]; rfl
  have hRl : R < w1.heap.size := (Array.getElem?_eq_some_iff.1 eR).1
  clear A0 hHz hfz eR
  go_wp2_with fail
  clear r4 hRl hcp
  go_loopw [6] (fun iv wr => Box (∃ (i t : Nat), iv = .int .i64 (i : Int) ∧ i = m + t ∧ t ≤ 3 ∧ Hid (All (blkC H (lentL l t) 9 :: blkC R2 [.int .i64 0, .int .i64 0, .int .i64 0, .int .i64 0, .slice none 0 0] 39 :: blkC R [.int .i64 n, .int .i64 a, .int .i64 c, .int .i64 k, .slice ao m cp] 39 :: cs) wr))) (fun iv _ => m + 3 - (intOf iv).toNat)
  case atStart => exact ⟨⟨m, 0, rfl, by omega, by omega, A1⟩⟩
  case round =>
    obtain ⟨i, t, rfl, hit, ht, HI⟩ := hrel.out
    clear hrel A1
    by_cases hlt : t < 3
    case pos =>
      have el : decide ((i : Int) < (m : Int) + 3) = true := by simp; omega
      have hin : (i : Int) < (m : Int) + 3 := by omega
      have eH : wr.heap[H]? = some (.cells (lentL l t).toArray 9 (0, 0)) := HI.out.1.2.1
      have hHl : H < wr.heap.size := (Array.getElem?_eq_some_iff.1 eH).1
      obtain ⟨u, hu⟩ : ∃ u, (lentL l t)[i]? = some u := ⟨_, List.getElem?_eq_getElem (by rw [lentL_len _ ht, ← hm.out]; omega)⟩
      have cH : wr.cell? ⟨H, i, none⟩ = some u := by
        rw [cell_at eH]
        exact (List.getElem?_toArray ..).trans hu
      have fH : wr.frozen? ⟨H, i, none⟩ = false := free_at eH i
      have J := hid (HI.out.setBlk i spS)
      have e9 : (lentL l t).set i spS = lentL l (t + 1) := by rw [hit, hm.out]; exact lentL_set l hlt
      rw [e9] at J
      have HIT := hid hit
      clear eH hu e9 HI hit
      go_wp2
      go_roundw
      case rel => exact ⟨⟨i + 1, t + 1, by go_num, by have := HIT.out; omega, by omega, J⟩⟩
      case measure => simp [intOf]; omega
    case neg =>
    obtain rfl : t = 3 := by omega
    have el : decide ((i : Int) < (m : Int) + 3) = false := by simp; omega
    have cut35 : ∀ W : World, (Instr.slice 35 (.slice (some ⟨H, 0, none⟩) (m + 3) (m + 3)) none (some (.int .i64 (m : Int))) none).run Try.prog W = .ok (.slice (some ⟨H, 0, none⟩) m (m + 3)) W := fun W => by
      rw [run_slice_h W 35 (some ⟨H, 0, none⟩) (m + 3) (m + 3) (by kernel_rfl) .i64 (m : Int) (by omega) (by omega)]
      have hs : (sizeOf (Try.prog.elem 35)).run Try.prog W = .ok 1 W := by kernel_rfl
      rw [hs]
      simp [sliced, Result.andThen, Addr.add_lit]
    have eR : wr.heap[R]? = some (.cells #[.int .i64 n, .int .i64 a, .int .i64 c, .int .i64 k, .slice ao m cp] 39 (0, 0)) := HI.out.tail.tail.1.2.1
    have fR : ∀ j, wr.frozen? ⟨R, j, none⟩ = false := fun j => free_at eR j
    have r4 : wr.cell? ⟨R, 4, none⟩ = some (.slice ao m cp) := by rw [cell_at eR]; rfl
    have hRl : R < wr.heap.size := (Array.getElem?_eq_some_iff.1 eR).1
    have J := hid ((HI.out.perm (List.Perm.trans (List.Perm.cons _ (List.Perm.swap _ _ _)) (List.Perm.swap _ _ _))).setBlk 4 (.slice (some ⟨H, 0, none⟩) m (m + 3)))
    clear HI eR
    go_upto_region 9 with fail
    clear r4 fR hRl cut35
    generalize wr.setCell ⟨R, 4, none⟩ (.slice (some ⟨H, 0, none⟩) m (m + 3)) = w6 at J ⊢
    have J : Hid (All (blkC R [.int .i64 n, .int .i64 a, .int .i64 c, .int .i64 k, .slice (some ⟨H, 0, none⟩) m (m + 3)] 39 :: blkC H (lentL l 3) 9 :: blkC R2 [.int .i64 0, .int .i64 0, .int .i64 0, .int .i64 0, .slice none 0 0] 39 :: cs) w6) := hid J.out
    have eR : w6.heap[R]? = some (.cells #[.int .i64 n, .int .i64 a, .int .i64 c, .int .i64 k, .slice (some ⟨H, 0, none⟩) m (m + 3)] 39 (0, 0)) := J.out.1.2.1
    have hRl : R < w6.heap.size := (Array.getElem?_eq_some_iff.1 eR).1
    have r0 : w6.cell? ⟨R, 0, none⟩ = some (.int .i64 n) := by rw [cell_at eR]; rfl
    have r1 : w6.cell? ⟨R, 1, none⟩ = some (.int .i64 a) := by rw [cell_at eR]; rfl
    have r2 : w6.cell? ⟨R, 2, none⟩ = some (.int .i64 c) := by rw [cell_at eR]; rfl
    have r3 : w6.cell? ⟨R, 3, none⟩ = some (.int .i64 k) := by rw [cell_at eR]; rfl
    have r4 : w6.cell? ⟨R, 4, none⟩ = some (.slice (some ⟨H, 0, none⟩) m (m + 3)) := by rw [cell_at eR]; rfl
    have eZ : w6.heap[R2]? = some (.cells #[.int .i64 0, .int .i64 0, .int .i64 0, .int .i64 0, .slice none 0 0] 39 (0, 0)) := J.out.tail.tail.1.2.1
    have hZl : R2 < w6.heap.size := (Array.getElem?_eq_some_iff.1 eZ).1
    have z0 : w6.cell? ⟨R2, 0, none⟩ = some (.int .i64 0) := by rw [cell_at eZ]; rfl
    have z1 : w6.cell? ⟨R2, 1, none⟩ = some (.int .i64 0) := by rw [cell_at eZ]; rfl
    have z2 : w6.cell? ⟨R2, 2, none⟩ = some (.int .i64 0) := by rw [cell_at eZ]; rfl
    have z3 : w6.cell? ⟨R2, 3, none⟩ = some (.int .i64 0) := by rw [cell_at eZ]; rfl
    have z4 : w6.cell? ⟨R2, 4, none⟩ = some (.slice none 0 0) := by rw [cell_at eZ]; rfl
    have fZ : ∀ j, w6.frozen? ⟨R2, j, none⟩ = false := fun j => free_at eZ j
    have J2 := hid (((((((J.out.tail.swap).setBlk 0 (.int .i64 n)).setBlk 1 (.int .i64 a)).setBlk 2 (.int .i64 c)).setBlk 3 (.int .i64 k)).setBlk 4 (.slice (some ⟨H, 0, none⟩) m (m + 3))))
    clear eR eZ J hit
    go_wp2
    refine bodyPost_ret (v := .tuple #[rowV n a c k (.slice (some ⟨H, 0, none⟩) m (m + 3)), .slice (some ⟨H, 0, none⟩) (m + 3) (m + 3)]) (res11 rfl rfl J2.out.1.2.1) rfl ?_
    exact ⟨H, rfl, hid J2.out.tail⟩

end Go.Proofs.Ytagdpfghooogfaa

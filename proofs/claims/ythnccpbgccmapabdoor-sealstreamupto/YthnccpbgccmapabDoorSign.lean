import Derived.Test.YthnccpbgccmapabDoorCopied
import Derived.Deep.RegionWith
import Derived.Deep.DrawnRows
namespace Go.Proofs.YthnccpbgccmapabDoor
open Go.RowKit
set_option linter.unusedVariables false
attribute [local go_sem ↓] Go.wp_at_zero Go.wp_at_succ

set_option maxHeartbeats 1600000 in
set_option maxRecDepth 1000000 in
theorem copied_any {w : World} {s : Value} {l : List UInt8} (h : Reads w s l) (hlen : l.length ≤ 140737488355328) :
    Calls Tryd.prog 29 #[s] w fun e w' => e = .returned (.slice (some ⟨w.heap.size, 0, none⟩) l.length l.length) ∧ w'.ownsRow w.heap.size 5 1 (.slice (some ⟨w.heap.size, 0, none⟩) l.length l.length) l.length (cellsB l) ∧ Below w.heap.size w w' := by
  obtain ⟨i0, hi, hz0, hz1, hz2⟩ := info_parts Tryd.info5
  have HH := hid h
  obtain ⟨ao, c, hf⟩ := h.form
  subst hf
  clear h
  go_enter Tryd.func29, Tryd.ntmps29
  go_wp2_with (at_make; refine wpList_make_full _ rfl (.tmp 5) (.tmp 5) 26 rfl w.heap.size 5 i0 (.int .u8 0) 1 Tryd.underlying26 hi hz0 hz1 .i64 .i64 _ _ l.length rfl rfl rfl rfl (by rw [hz2]; omega) (by unfold maxLen; omega) (Nat.le_refl _) ?_)
  intro w1 hown hgr
  have hb1 : Below w.heap.size w w1 := (Below.refl _ _).grown hgr (Nat.le_refl _) (fun k hk => by cases hk)
  obtain ⟨cur, hcur, hcl⟩ : ∃ cur : Array Value, w1.heap[w.heap.size]? = some (.cells cur 5 (0, 0)) ∧ cur.size = l.length := by
    rcases hown.2 with ⟨e, _⟩ | ⟨g, cap, cur, e, _, hgg, _, _, hcs, _⟩
    · simp at e
    · simp only [Value.slice.injEq, Option.some.injEq, Addr.mk.injEq, and_true, true_and] at e
      obtain ⟨rfl, rfl⟩ := e
      exact ⟨cur, hgg, by simpa using hcs⟩
  obtain ⟨wz, hrun, hrow, hfr⟩ := copy_runs w.heap.size 0 l.length l.length l ao c [] cur.toList (HH.out.below hb1) (by simpa using hcur) rfl (Nat.le_refl _) (by simp; omega)
  have R : Hid (wz.ownsRow w.heap.size 5 1 (.slice (some ⟨w.heap.size, 0, none⟩) l.length l.length) l.length (cellsB l) ∧ Below w.heap.size w wz) := by
    refine ⟨⟨by rw [cellsB_length]; omega, Or.inr ⟨w.heap.size, l.length, _, rfl, Nat.le_refl _, hrow, Nat.le_refl _, by unfold maxLen; omega, ?_, ?_⟩⟩, ⟨hfr.os.trans hb1.os, hfr.tape.trans hb1.tape, hfr.output.trans hb1.output, Nat.le_trans hb1.size hfr.size, fun k hk => (hfr.block k (Nat.lt_of_lt_of_le hk hb1.size) (by simp; omega)).trans (hb1.block k hk)⟩⟩
    · simp [cellsB_length, hcl]
    · simp [cellsB_length]
  clear hown hgr hb1 hrow hfr hcur
  go_wp2
  go_ret
  exact ⟨rfl, R.out.1, R.out.2⟩

/-- A list into which the first bytes of another are laid, from a place on. -/
def laid (bs : List UInt8) (p : Nat) (t : List UInt8) (k : Nat) : List UInt8 := bs.take p ++ (t.take k ++ bs.drop (p + k))

theorem laid_length (bs : List UInt8) (p : Nat) (t : List UInt8) (k : Nat) (hk : k ≤ t.length) (hp : p + k ≤ bs.length) : (laid bs p t k).length = bs.length := by
  simp [laid]; omega

theorem laid_zero (bs : List UInt8) (p : Nat) (t : List UInt8) : laid bs p t 0 = bs := by simp [laid]

/-- The block of a datagram. -/
def Blk (w : World) (g : Nat) (bs : List UInt8) : Prop := w.heap[g]? = some (.cells (cellsB bs).toArray 5 (0, 0))

theorem Blk.lt {w : World} {g : Nat} {bs : List UInt8} (h : Blk w g bs) : g < w.heap.size := (Array.getElem?_eq_some_iff.1 h).1
theorem Blk.cell {w : World} {g : Nat} {bs : List UInt8} (h : Blk w g bs) (j : Nat) (hj : j < bs.length) : w.cell? ⟨g, j, none⟩ = some (.int .u8 ((bs.getD j 0).toNat : Int)) := by
  rw [cell_at h]
  simp [cellsB, hj, List.getD]
theorem Blk.free {w : World} {g : Nat} {bs : List UInt8} (h : Blk w g bs) (j : Nat) : w.frozen? ⟨g, j, none⟩ = false := free_at h j
theorem Blk.kept {w w' : World} {g : Nat} {bs : List UInt8} (h : Blk w g bs) (hb : w'.heap[g]? = w.heap[g]?) : Blk w' g bs := by unfold Blk; rw [hb]; exact h
theorem Blk.below {w w' : World} {g : Nat} {bs : List UInt8} (h : Blk w g bs) (hb : Below w.heap.size w w') : Blk w' g bs := h.kept (hb.block g h.lt)
theorem Blk.reads {w : World} {g : Nat} {bs : List UInt8} (h : Blk w g bs) (p n c : Nat) (hn : p + n ≤ bs.length) (hc : n ≤ c) : Reads w (.slice (some ⟨g, p, none⟩) n c) ((bs.drop p).take n) := by
  have e : ((bs.drop p).take n).length = n := by simp; omega
  refine ⟨_, c, by rw [e], by omega, Or.inr ⟨g, p, rfl, h.lt, fun j u hu => ?_⟩⟩
  have hj : j < n := by
    have := (List.getElem?_eq_some_iff.1 hu).1
    rw [cellsB_length, e] at this
    exact this
  rw [h.cell (p + j) (by omega), ← hu]
  simp only [cellsB, List.getElem?_map, List.getElem?_take, hj, if_true, List.getElem?_drop, List.getElem?_eq_getElem (show p + j < bs.length by omega), Option.map_some, List.getD, Option.getD_some]
theorem Blk.reads0 {w : World} {g : Nat} {bs : List UInt8} (h : Blk w g bs) : Reads w (.slice (some ⟨g, 0, none⟩) bs.length bs.length) bs := by
  have := h.reads 0 bs.length bs.length (by omega) (Nat.le_refl _)
  simpa using this

theorem Blk.set {w : World} {g : Nat} {bs : List UInt8} {p k : Nat} {t : List UInt8} {x : Nat} (h : Blk w g (laid bs p t k)) (hk : k < t.length) (hp : p + t.length ≤ bs.length) (hx : x = (t.getD k 0).toNat) : Blk (w.setCell ⟨g, p + k, none⟩ (.int .u8 (x : Int))) g (laid bs p t (k + 1)) := by
  unfold Blk
  rw [heap_setCell_same h]
  congr 2
  apply Array.ext_getElem?
  intro i
  have e1 : bs.drop (p + k) = bs.getD (p + k) 0 :: bs.drop (p + (k + 1)) := by
    rw [List.drop_eq_getElem_cons (by omega)]
    simp [List.getD, List.getElem?_eq_getElem (show p + k < bs.length by omega), Nat.add_assoc]
  have e2 : t.take (k + 1) = t.take k ++ [t.getD k 0] := by
    rw [List.take_succ_eq_append_getElem hk]
    simp [List.getD, List.getElem?_eq_getElem hk]
  have e3 : cellsB (laid bs p t k) = cellsB (bs.take p ++ t.take k) ++ (.int .u8 ((bs.getD (p + k) 0).toNat : Int) :: cellsB (bs.drop (p + (k + 1)))) := by
    unfold laid
    rw [e1, ← List.append_assoc, cellsB_append]
    rfl
  have e4 : cellsB (laid bs p t (k + 1)) = cellsB (bs.take p ++ t.take k) ++ (.int .u8 (x : Int) :: cellsB (bs.drop (p + (k + 1)))) := by
    unfold laid
    rw [e2, List.append_assoc, ← List.append_assoc, cellsB_append, hx]
    rfl
  have e5 : (cellsB (bs.take p ++ t.take k)).length = p + k := by rw [cellsB_length]; simp; omega
  rw [e3, e4]
  have : p + k = (cellsB (bs.take p ++ t.take k)).length := e5.symm
  rw [this]
  simp

set_option maxHeartbeats 1600000 in
set_option maxRecDepth 1000000 in
theorem sign_any {w : World} {g p : Nat} {a : Value} {l bs : List UInt8} (hT : Tab w) (h1 : Reads w a l) (hb : Blk w g bs) (hp : p + 4 ≤ bs.length) (hg : 0 < g) (hlen : l.length ≤ 140737488355328) :
    Calls Tryd.prog 32 #[.agg #[a, .slice (some ⟨g, p, none⟩) 4 4]] w fun e w' => e = .returned (.tuple #[]) ∧ Blk w' g (laid bs p (sumB (sumN l)) 4) ∧ Fr [g] w w' := by
  obtain ⟨ao1, c1, hf1⟩ := h1.form
  subst hf1
  have B1 : Below w.heap.size w (w.alloc (.cells #[.slice ao1 l.length c1, .slice (some ⟨g, p, none⟩) 4 4] 62)) := (Below.refl _ _).alloc (Nat.le_refl _) _
  have T1 := hid (hT.below B1)
  have R1 := hid (h1.below B1)
  have HB := hid B1
  have K1 := hid (hb.below B1)
  have hgl := hb.lt
  clear h1 hT B1 hb
  go_enter Tryd.func32, Tryd.ntmps32
  go_wp2_with fail
  refine (Sum_any T1.out R1.out hlen).mono ?_
  rintro e w1 ⟨rfl, rfl⟩
  have hsl := sumN_lt l
  generalize hs : sumN l = s at *
  go_wp2
  go_loopw [10] (fun iv wr => ∃ (k : Nat), k ≤ 4 ∧ iv = .int .i64 (k : Int) ∧ Hid (Blk wr g (laid bs p (sumB s) k) ∧ Fr [g] (w.alloc (.cells #[.slice ao1 l.length c1, .slice (some ⟨g, p, none⟩) 4 4] 62)) wr)) (fun iv _ => 4 - (intOf iv).toNat)
  case atStart => exact ⟨0, by omega, rfl, by rw [laid_zero]; exact K1.out, Fr.refl _ _⟩
  case round =>
    obtain ⟨k, hk, rfl, hrel⟩ := hrel
    have q0 : wr.cell? ⟨w.heap.size, 1, none⟩ = some (.slice (some ⟨g, p, none⟩) 4 4) := by
      rw [World.cell?_of_block (hrel.out.2.block w.heap.size (by simp) (by simp; omega))]
      simp
    by_cases hlt : k < 4
    · have q1 := hrel.out.1.cell (p + k) (by rw [laid_length _ _ _ _ (by rw [sumB_length]; omega) (by omega)]; omega)
      have q2 := hrel.out.1.free (p + k)
      have hy := hid (show (byteN s k).toNat = ((sumB s).getD k 0).toNat by rw [sumB_at s k hlt])
      have q3 := hid (hrel.out.1.set (by rw [sumB_length]; exact hlt) (by rw [sumB_length]; exact hp) hy.out)
      have HR := hid hrel.out.2
      have R4 := hid (fun (e : Ending) (h : e = .returned (.int .u8 ((byteN s k).toNat : Int))) => h)
      clear hrel hy R4
      go_wp2
      go_region_with (go_at_call 31; refine (byteOf_any s k hsl hlt).mono ?_; rintro e w1 ⟨rfl, rfl⟩)
      all_goals go_wp2
      all_goals go_roundw
      all_goals first
        | (simp [intOf]; omega)
        | exact ⟨k + 1, by omega, by go_num, q3.out, HR.out.os, HR.out.tape, HR.out.output, by simpa [World.setCell] using HR.out.size, fun i hi hF => (Below.heap_setCell _ _ _ _ (by simpa using hF)).trans (HR.out.block i hi hF)⟩
    · have hk4 : k = 4 := by omega
      subst hk4
      have R := hid (show Blk wr g (laid bs p (sumB (sumN l)) 4) ∧ Fr [g] w wr by
        rw [hs]
        exact ⟨hrel.out.1, ⟨hrel.out.2.os.trans HB.out.os, hrel.out.2.tape.trans HB.out.tape, hrel.out.2.output.trans HB.out.output, Nat.le_trans HB.out.size hrel.out.2.size, fun k hk hF => (hrel.out.2.block k (Nat.lt_of_lt_of_le hk HB.out.size) hF).trans (HB.out.block k hk)⟩⟩)
      clear hrel q0
      go_wp2
      go_end0
      exact ⟨rfl, R.out⟩
end Go.Proofs.YthnccpbgccmapabDoor

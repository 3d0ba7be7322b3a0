import Derived.Test.YtpfpamkbahgkpaaPk
import Derived.Laws.CopyRow
namespace Go.Proofs.Ytpfpamkbahgkpaa
open Go.RowKit
set_option linter.unusedVariables false

/-- An end's number. -/
def endB (k : Int) : Bool := decide (0 ≤ k ∧ k < 7 ∨ 8 ≤ k ∧ k < 16)

set_option maxRecDepth 1000000 in
theorem isEnd_any (k : Int) (w : World) : Calls Try.prog 45 #[.int .i64 k] w fun e w' => e = .returned (.bool (endB k)) ∧ w' = w := by
  have key : ∀ b, endB k = b → Hid (endB k = b) := fun b h => h
  by_cases h0 : 0 ≤ k
  · by_cases h7 : k < 7
    · have H := key true (decide_eq_true (by omega))
      clear key
      go_enter Try.func45, Try.ntmps45
      go_wp2
      go_ret
      exact ⟨by rw [H.out]; rfl, rfl⟩
    · by_cases h8 : 8 ≤ k
      · by_cases h16 : k < 16
        · have H := key true (decide_eq_true (by omega))
          clear key
          go_enter Try.func45, Try.ntmps45
          go_wp2
          go_ret
          exact ⟨by rw [H.out]; rfl, rfl⟩
        · have H := key false (decide_eq_false (by omega))
          clear key
          go_enter Try.func45, Try.ntmps45
          go_wp2
          go_ret
          exact ⟨by rw [H.out]; rfl, rfl⟩
      · have H := key false (decide_eq_false (by omega))
        clear key
        go_enter Try.func45, Try.ntmps45
        go_wp2
        go_ret
        exact ⟨by rw [H.out]; rfl, rfl⟩
  · have H := key false (decide_eq_false (by omega))
    clear key
    have h8 : ¬ 8 ≤ k := by omega
    go_enter Try.func45, Try.ntmps45
    go_wp2
    go_ret
    exact ⟨by rw [H.out]; rfl, rfl⟩

/-- A place among so many. -/
def hasB (k : Int) (n : Nat) : Bool := decide (0 ≤ k ∧ k < n)

set_option maxRecDepth 1000000 in
theorem has_any {b : Nat} {r l : Int} {ao : Option Addr} {n c : Nat} {w : World} (h : w.heap[b]? = some (.cells #[.int .i64 r, .int .i64 l, .slice ao n c] 72 (0, 0))) (hn : n ≤ 140737488355328) (k : Int) :
    Calls Try.prog 49 #[.pointer (some ⟨b, 0, none⟩), .int .i64 k] w fun e w' => e = .returned (.bool (hasB k n)) ∧ w' = w := by
  have hc : w.cell? ⟨b, 2, none⟩ = some (.slice ao n c) := by rw [cell_at h]; rfl
  have key : ∀ b, hasB k n = b → Hid (hasB k n = b) := fun b h => h
  clear h
  by_cases h0 : 0 ≤ k
  · by_cases h7 : k < n
    · have H := key true (decide_eq_true (by omega))
      clear key
      go_enter Try.func49, Try.ntmps49
      go_wp2
      go_ret
      exact ⟨by rw [H.out]; rfl, rfl⟩
    · have H := key false (decide_eq_false (by omega))
      clear key
      go_enter Try.func49, Try.ntmps49
      go_wp2
      go_ret
      exact ⟨by rw [H.out]; rfl, rfl⟩
  · have H := key false (decide_eq_false (by omega))
    clear key
    go_enter Try.func49, Try.ntmps49
    go_wp2
    go_ret
    exact ⟨by rw [H.out]; rfl, rfl⟩

/-- Is there no room? -/
def fullB (n : Nat) (r : Int) : Bool := decide ((n : Int) = r)

set_option maxRecDepth 1000000 in
theorem full_any {b : Nat} {r l : Int} {ao : Option Addr} {n c : Nat} {w : World} (h : w.heap[b]? = some (.cells #[.int .i64 r, .int .i64 l, .slice ao n c] 72 (0, 0))) (hn : n ≤ 140737488355328) :
    Calls Try.prog 46 #[.pointer (some ⟨b, 0, none⟩)] w fun e w' => e = .returned (.bool (fullB n r)) ∧ ∃ q, w' = w.drewN q := by
  have hc : w.cell? ⟨b, 2, none⟩ = some (.slice ao n c) := by rw [cell_at h]; rfl
  have hc0 : w.cell? ⟨b, 0, none⟩ = some (.int .i64 r) := by rw [cell_at h]; rfl
  have H : ∀ b, fullB n r = b → Hid (fullB n r = b) := fun b h => h
  clear h
  by_cases h0 : (n : Int) = r
  · have H := H true (decide_eq_true h0)
    have hb : ((n : Int) == r) = true := by simpa using h0
    have H0 := hid h0
    clear h0
    go_enter Try.func46, Try.ntmps46
    go_wp2
    go_region
    go_wp2
    go_ret
    exact ⟨by rw [H.out]; rfl, 1, rfl⟩
  · have H := H false (decide_eq_false h0)
    have hb : ((n : Int) == r) = false := by simpa using h0
    have H0 := hid h0
    clear h0
    go_enter Try.func46, Try.ntmps46
    go_wp2
    go_region
    go_wp2
    go_ret
    exact ⟨by rw [H.out]; rfl, 1, rfl⟩

theorem made_ones (z : Value) (hz : z.cells = #[z]) (n : Nat) : madeCells z.cells (n * 1) = (List.replicate n z).toArray := by
  rw [hz, Nat.mul_one]
  apply Array.ext
  · simp [size_madeCells]
  · intro i h1 h2
    simp [madeCells, Nat.mod_one]
theorem make_bytes {w : World} (n : Nat) (hn : n ≤ 281474976710656) : (Instr.makeSlice 31 (.int .i64 n) (.int .i64 n)).run Try.prog w = .ok (.slice (some ⟨w.heap.size, 0, none⟩) n n) (w.alloc (.cells (List.replicate n (.int .u8 0)).toArray 5)) := by
  obtain ⟨i0, hi, hz0, hz1, hz2⟩ := info_parts Try.info5
  have h := run_make (P := Try.prog) w 31 5 i0 (.int .u8 0) Try.underlying31 hi hz0 .i64 .i64 n n (by omega) (by omega) (by rw [hz2]; omega) (by omega)
  rw [hz1, Int.toNat_natCast, made_ones (.int .u8 0) rfl] at h
  exact h
/-- Copying bytes into a row that lies alone. -/
theorem copy_bytes {w1 : World} (H dLen dCap : Nat) (l : List UInt8) (ao : Option Addr) (c : Nat) (suf : List Value) (h : Reads w1 (.slice ao l.length c) l) (hg : w1.heap[H]? = some (.cells suf.toArray 5 (0, 0))) (hd : l.length ≤ dLen) (hc : l.length ≤ suf.length) :
    ∃ wz, (Builtin.copy_ #[31, 31] 3 #[.slice (some ⟨H, 0, none⟩) dLen dCap, .slice ao l.length c]).run Try.prog w1 = .ok (.int .i64 (l.length : Int)) wz ∧ wz.heap[H]? = some (.cells (cellsB l ++ suf.drop l.length).toArray 5 (0, 0)) ∧ Fr [H] w1 wz := by
  obtain ⟨i0, hi, hz0, hz1, hz2⟩ := info_parts Try.info5
  have key : ∀ a : Addr, (∀ j u, (cellsB l)[j]? = some u → w1.cell? (a.add j) = some u) → ∃ wz, (Builtin.copy_ #[31, 31] 3 #[.slice (some ⟨H, 0, none⟩) dLen dCap, .slice (some a) l.length c]).run Try.prog w1 = .ok (.int .i64 (l.length : Int)) wz ∧ wz.heap[H]? = some (.cells (cellsB l ++ suf.drop l.length).toArray 5 (0, 0)) ∧ Fr [H] w1 wz := fun a hcell => by
    have hr := run_copy_row (P := Try.prog) w1 31 31 3 5 H 0 dLen dCap a l.length c suf.toArray 5 (cellsB l) Try.underlying31 (by rw [hi]; simp [hz1]) hg (by rw [cellsB_length]; exact (Nat.min_eq_left hd).symm) hcell (by rw [cellsB_length]; simp; omega) (cellsB_one _)
    rw [cellsB_length] at hr
    refine ⟨_, hr, ?_, ⟨rfl, rfl, rfl, by simp, fun k _ hk => setRow_other w1 H k _ (by simpa using hk)⟩⟩
    rw [setRow_heap w1 H _ _ 5 (0, 0) hg]
    simp
  obtain ⟨ao', c', e, _, hcase⟩ := h
  simp only [Value.slice.injEq] at e
  obtain ⟨rfl, _, rfl⟩ := e
  rcases hcase with ⟨rfl, h0⟩ | ⟨g, o, rfl, hgg, hcell⟩
  · cases ao with
    | some a => exact key a (by simp [cellsB])
    | none =>
      obtain rfl := h0 rfl
      refine ⟨w1, ?_, by simpa [cellsB] using hg, ⟨rfl, rfl, rfl, Nat.le_refl _, fun _ _ _ => rfl⟩⟩
      exact run_copy_nil (P := Try.prog) w1 31 31 3 5 ⟨H, 0, none⟩ dLen dCap Try.underlying31 (by rw [hi]; rfl)
  · exact key _ (by simpa [Addr.add_lit] using hcell)

/-- Bytes of one's own, out of a block. -/
theorem All.blkOwn {H : Nat} {l : List UInt8} {cs : List Comp} {w : World} (h : All (blkC H (cellsB l) 5 :: cs) w) (hl : l.length ≤ maxLen) : All (byC (.slice (some ⟨H, 0, none⟩) l.length l.length) l :: cs) w := by
  have hb : w.heap[H]? = some (.cells (cellsB l).toArray 5 (0, 0)) := h.1.2.1
  refine ⟨⟨ownC_good _ _ _, ⟨by simp, Or.inr ⟨H, l.length, (cellsB l).toArray, by rw [cellsB_length], Nat.zero_le _, hb, by rw [cellsB_length]; exact Nat.le_refl _, hl, by simp [cellsB_length], by simp⟩⟩, fun k hk => h.1.2.2 k (by simpa [ownC, Value.ownBlock, blkC, eq_comm] using hk)⟩, fun d hd k hk => h.2.1 d hd k (by simpa [ownC, Value.ownBlock, blkC, eq_comm] using hk), h.2.2⟩

set_option maxRecDepth 1000000 in
theorem copied_any {s : Value} {l : List UInt8} {cs : List Comp} {w : World} (h : All cs w) (hr : Reads w s l) (hl : l.length ≤ 140737488355328) :
    Calls Try.prog 48 #[s] w fun e w' => ∃ H, e = .returned (.slice (some ⟨H, 0, none⟩) l.length l.length) ∧ All (byC (.slice (some ⟨H, 0, none⟩) l.length l.length) l :: cs) w' := by
  have M := make_bytes (w := w) l.length (by omega)
  obtain ⟨ao, c, hf⟩ := hr.form
  subst hf
  have A1 := h.addBlk (List.replicate l.length (.int .u8 0)) 5
  obtain ⟨wz, hc, hg, hfz⟩ := copy_bytes w.heap.size l.length l.length l ao c (List.replicate l.length (.int .u8 0)) (hr.below (ba w _)) A1.1.2.1 (Nat.le_refl _) (by simp)
  have A2 : All (blkC w.heap.size (cellsB l) 5 :: cs) wz := A1.turn (c' := blkC w.heap.size (cellsB l) 5) hfz (blkC_good _ _ _) (show wz.heap[w.heap.size]? = some (.cells (cellsB l).toArray 5 (0, 0)) by simpa using hg) (fun k hk => Or.inl hk) (fun k hk => Nat.lt_of_lt_of_le (A1.1.2.2 k hk) hfz.size)
  have A3 := hid (A2.blkOwn (by unfold maxLen; omega))
  clear A1 A2 hg hfz h hr
  generalize w.alloc (.cells (List.replicate l.length (.int .u8 0)).toArray 5) = w1 at *
  generalize w.heap.size = H at *
  go_enter Try.func48, Try.ntmps48
  go_wp2
  go_ret
  exact ⟨_, rfl, A3.out⟩
end Go.Proofs.Ytpfpamkbahgkpaa

import Derived.Test.YtblojlaifnmimaaGreatDoorWk
namespace Go.Proofs.YtblojlaifnmimaaGreatDoor
open Go.RowKit
set_option linter.unusedVariables false

/-- The document's rows. -/
def rowN : Ws := [[], [116, 105, 99, 107, 32, 65], [99, 108, 111, 99, 107, 32, 65], [115, 117, 98, 109, 105, 116, 32, 65, 111], [97, 115, 107, 32, 65, 75, 111], [100, 101, 108, 105, 118, 101, 114, 32, 75], [100, 114, 111, 112, 32, 75], [100, 117, 112, 32, 75], [102, 108, 105, 112, 32, 75, 88, 89], [99, 114, 97, 115, 104, 32, 65], [115, 116, 97, 114, 116, 32, 65], [108, 111, 111, 107, 32, 65], [114, 111, 117, 110, 100, 32], [115, 101, 116, 116, 108, 101, 32, 75]]
def wordW : List UInt8 → List UInt8
  | [] => []
  | b :: r => if b = 32 then [] else b :: wordW r
theorem wordW_at {l : List UInt8} : ∀ {k : Nat}, k < l.length → (∀ j, j < k → l.getD j 0 ≠ 32) → l.getD k 0 = 32 → wordW l = l.take k := by
  induction l with
  | nil => intro k hk; simp at hk
  | cons b r ih =>
    intro k hk hj h32
    cases k with
    | zero =>
      have : b = 32 := by simpa using h32
      rw [wordW, if_pos this]
      rfl
    | succ k =>
      have hb : b ≠ 32 := by simpa using hj 0 (by omega)
      rw [wordW, if_neg hb, List.take_succ_cons, ih (by simpa using hk) (fun j hj' => by simpa using hj (j + 1) (by omega)) (by simpa using h32)]
theorem wordW_none {l : List UInt8} : (∀ j, j < l.length → l.getD j 0 ≠ 32) → wordW l = l := by
  induction l with
  | nil => intro _; rfl
  | cons b r ih =>
    intro hj
    have hb : b ≠ 32 := by simpa using hj 0 (by simp)
    rw [wordW, if_neg hb, ih (fun j hj' => by simpa using hj (j + 1) (by simpa using hj'))]
theorem take_run {l : List UInt8} {i : Nat} (hi : i ≤ l.length) (W : World) : (Instr.slice 9 (.string ⟨l.toArray⟩) none (some (.int .i64 (i : Int))) none).run Tryz.prog W = .ok (.string ⟨(l.take i).toArray⟩) W := by
  have hs : (⟨l.toArray⟩ : ByteArray).size = l.length := by simp [ByteArray.size]
  rw [run_slice_string_h W 9 _ Tryz.underlying9 .i64 (i : Int) (by omega) (by rw [hs]; omega)]
  congr 2
  apply ByteArray.ext
  simp only [ByteArray.data_extract, Int.toNat_natCast]
  apply Array.ext'
  simp [List.extract_eq_take_drop]

set_option maxHeartbeats 1600000 in
set_option maxRecDepth 1000000 in
theorem rows_any {w : World} : Calls Tryz.prog 42 #[] w fun e w' => e = .returned (.slice (some ⟨w.heap.size, 0, none⟩) 14 14) ∧ w' = w.alloc (.cells (txW rowN).toArray 9) := by
  go_enter Tryz.func42, Tryz.ntmps42
  go_wp2
  go_ret
  exact ⟨rfl, rfl⟩

set_option maxHeartbeats 1600000 in
set_option maxRecDepth 1000000 in
theorem word_any {l : List UInt8} {w : World} (hl : l.length ≤ 1000000) : Calls Tryz.prog 43 #[.string ⟨l.toArray⟩] w fun e w' => e = .returned (.string ⟨(wordW l).toArray⟩) ∧ w' = w := by
  have hz : (⟨l.toArray⟩ : ByteArray).size = l.length := by simp [ByteArray.size]
  have IX : Hid (∀ k, k < l.length → ∀ W, (Instr.index 9 (.string ⟨l.toArray⟩) (.int .i64 (k : Int))).run Tryz.prog W = .ok (.int .u8 ((l.getD k 0).toNat : Int)) W) := hid (fun k hk W => idx_at hk W)
  have CT : Hid (∀ k, k < l.length → ∃ Y : ByteArray, Y = ⟨(l.take k).toArray⟩ ∧ ∀ W, (Instr.slice 9 (.string ⟨l.toArray⟩) none (some (.int .i64 (k : Int))) none).run Tryz.prog W = .ok (.string Y) W) := hid (fun k hk => ⟨_, rfl, fun W => take_run (by omega) W⟩)
  have F1 : Hid (∀ k, k < l.length → (∀ j, j < k → l.getD j 0 ≠ 32) → l.getD k 0 = 32 → wordW l = l.take k) := hid (fun k => wordW_at)
  have F2 : Hid ((∀ j, j < l.length → l.getD j 0 ≠ 32) → (⟨l.toArray⟩ : ByteArray) = ⟨(wordW l).toArray⟩) := hid (fun h => by rw [wordW_none h])
  generalize hX : ByteArray.mk l.toArray = X at *
  clear hX
  generalize hn : l.length = n at *
  clear hn
  go_enter Tryz.func43, Tryz.ntmps43
  go_wp2
  go_loopw [3] (fun iv wr => ∃ k : Nat, k ≤ n ∧ iv = .int .i64 (k : Int) ∧ Hid (∀ j, j < k → l.getD j 0 ≠ 32) ∧ wr = w) (fun iv _ => n - (intOf iv).toNat)
  case atStart => exact ⟨0, by omega, rfl, hid (fun j hj => by omega), rfl⟩
  case round =>
    obtain ⟨k, hk, rfl, hj, rfl⟩ := hrel
    by_cases hlt : k < n
    · have hlt' : (k : Int) < (n : Int) := by omega
      have ix := IX.out k hlt
      generalize hb : l.getD k 0 = b at ix
      have HB := hid hb
      clear hb
      by_cases h32 : b.toNat = 32
      · have bi : (b.toNat : Int) = 32 := by omega
        rw [bi] at ix
        obtain ⟨Y, hY, ct⟩ := CT.out k hlt
        have fin : Hid ((⟨(wordW l).toArray⟩ : ByteArray) = Y) := hid (by
          rw [hY, F1.out k hlt hj.out (by rw [HB.out]; exact UInt8.toNat_inj.1 h32)])
        clear hY h32 bi
        go_wp2
        go_ret
        exact ⟨by rw [fin.out]; rfl, rfl⟩
      · have bn : ((b.toNat : Int) == 32) = false := by simp; omega
        have nx : Hid (∀ j, j < k + 1 → l.getD j 0 ≠ 32) := hid (fun j hj' => by
          by_cases hjk : j < k
          · exact hj.out j hjk
          · have : j = k := by omega
            subst this
            rw [HB.out]
            intro e
            exact h32 (by rw [e]; rfl))
        clear h32
        go_wp2
        go_roundw
        case rel => exact ⟨k + 1, by omega, by go_num, nx, trivial⟩
        case measure => simp [intOf]; omega
    · have hlt' : ¬ (k : Int) < (n : Int) := by omega
      have fin : Hid (X = ⟨(wordW l).toArray⟩) := hid (F2.out (fun j hj' => hj.out j (by omega)))
      go_wp2
      go_ret
      exact ⟨by rw [← fin.out]; rfl, rfl⟩

set_option maxHeartbeats 1600000 in
set_option maxRecDepth 1000000 in
theorem fields_any {l : List UInt8} {w : World} (hl : l.length ≤ 1000000) (hf : (wordW l).length + 1 ≤ l.length) : Calls Tryz.prog 44 #[.string ⟨l.toArray⟩] w fun e w' => e = .returned (.string ⟨(l.drop ((wordW l).length + 1)).toArray⟩) ∧ w' = w := by
  have hz : (⟨(wordW l).toArray⟩ : ByteArray).size = (wordW l).length := by simp [ByteArray.size]
  have Q := hid (word_any (w := w) hl)
  have ce : ∀ W, (Instr.slice 9 (.string ⟨l.toArray⟩) (some (.int .i64 (((wordW l).length : Int) + 1))) none none).run Tryz.prog W = .ok (.string ⟨(l.drop ((wordW l).length + 1)).toArray⟩) W := fun W => cut_end hf W
  generalize ByteArray.mk (l.drop ((wordW l).length + 1)).toArray = Y at *
  generalize ByteArray.mk l.toArray = X at *
  generalize ByteArray.mk (wordW l).toArray = Z at *
  generalize (wordW l).length = n at *
  go_enter Tryz.func44, Tryz.ntmps44
  go_wp2_with (go_at_call 43; refine Q.out.mono ?_; rintro e w1 ⟨rfl, rfl⟩)
  go_ret
  exact ⟨rfl, rfl⟩

set_option maxHeartbeats 1600000 in
set_option maxRecDepth 1000000 in
theorem of_any {s : Sp} {c : UInt8} {w : World} (hc : c = 65 ∨ c = 75 ∨ c = 88 ∨ c = 89) : Calls Tryz.prog 57 #[spV s, .int .u8 (c.toNat : Int)] w fun e w' => e = .returned (.int .i64 (getS c.toNat s)) ∧ Below w.heap.size w w' := by
  have B := hid (ba w (.cells s.vals.toArray 43))
  unfold spV Sp.vals at *
  rcases hc with rfl | rfl | rfl | rfl
  · show Calls Tryz.prog 57 #[.agg #[.int .i64 s.k, .int .i64 s.a, .int .i64 s.b, .int .i64 s.x, .int .i64 s.y, .int .i64 s.o.k, .string ⟨s.o.nm.toArray⟩, .string ⟨s.o.tx.toArray⟩, .int .i64 s.o.n, .int .i64 s.o.m], .int .u8 65] w fun e w' => e = .returned (.int .i64 s.a) ∧ Below w.heap.size w w'
    go_enter Tryz.func57, Tryz.ntmps57
    go_wp2
    go_ret
    exact ⟨rfl, B.out⟩
  · show Calls Tryz.prog 57 #[.agg #[.int .i64 s.k, .int .i64 s.a, .int .i64 s.b, .int .i64 s.x, .int .i64 s.y, .int .i64 s.o.k, .string ⟨s.o.nm.toArray⟩, .string ⟨s.o.tx.toArray⟩, .int .i64 s.o.n, .int .i64 s.o.m], .int .u8 75] w fun e w' => e = .returned (.int .i64 s.b) ∧ Below w.heap.size w w'
    go_enter Tryz.func57, Tryz.ntmps57
    go_wp2
    go_ret
    exact ⟨rfl, B.out⟩
  · show Calls Tryz.prog 57 #[.agg #[.int .i64 s.k, .int .i64 s.a, .int .i64 s.b, .int .i64 s.x, .int .i64 s.y, .int .i64 s.o.k, .string ⟨s.o.nm.toArray⟩, .string ⟨s.o.tx.toArray⟩, .int .i64 s.o.n, .int .i64 s.o.m], .int .u8 88] w fun e w' => e = .returned (.int .i64 s.x) ∧ Below w.heap.size w w'
    go_enter Tryz.func57, Tryz.ntmps57
    go_wp2
    go_ret
    exact ⟨rfl, B.out⟩
  · show Calls Tryz.prog 57 #[.agg #[.int .i64 s.k, .int .i64 s.a, .int .i64 s.b, .int .i64 s.x, .int .i64 s.y, .int .i64 s.o.k, .string ⟨s.o.nm.toArray⟩, .string ⟨s.o.tx.toArray⟩, .int .i64 s.o.n, .int .i64 s.o.m], .int .u8 89] w fun e w' => e = .returned (.int .i64 s.y) ∧ Below w.heap.size w w'
    go_enter Tryz.func57, Tryz.ntmps57
    go_wp2
    go_ret
    exact ⟨rfl, B.out⟩
end Go.Proofs.YtblojlaifnmimaaGreatDoor

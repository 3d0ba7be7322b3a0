import Derived.Test.YtkcepkehgkkkbaaDoorPlain
namespace Go.Proofs.YtkcepkehgkkkbaaDoor
open Go.RowKit
set_option linter.unusedVariables false

abbrev emp : ByteArray := ⟨#[]⟩
def Rst.size (r : Rst) : Nat := r.place + r.rs.length
theorem aft_size (r : Rst) (size : Nat) (e : Int) (h : e = 0 → size ≤ r.rs.length) : (r.aft size e).size ≤ r.size := by
  unfold Rst.aft Rst.size aft
  split
  · rename_i he
    have := h he
    simp only [List.length_drop]
    omega
  · simp only [List.length_nil]; omega
theorem num_size (r : Rst) (m : Int) : (r.num m).size ≤ r.size := aft_size r _ _ (fun _ => numR_size _ _ _)
theorem txt_size (r : Rst) (m : Int) : (r.txt m).size ≤ r.size := aft_size r _ _ (runR_size _ _).1

theorem numR_le (rs : List UInt8) (most above : Int) (hm : 0 ≤ most) : (numR rs most above).1 ≤ most := by
  rw [numR_eq]
  split
  · split
    · simpa using hm
    · simp only; omega
  · simpa using hm

theorem numR_inv (rs : List UInt8) (most above : Int) (h : (numR rs most above).2.2 = 0) (hab : above ≠ 0) : ∃ n : Nat, (numR rs most above).1 = (n : Int) ∧ (n : Int) ≤ most ∧ n < 9223372036854775808 ∧ (numR rs most above).2.1 = (enc 9 n).length ∧ rs = enc 9 n ++ rs.drop (enc 9 n).length := by
  have hb := (look_bound 9 127 (by omega) (by omega) (by omega) rs 0 0 (by omega) (by simp)).2.1 (by omega)
  unfold numR at h ⊢
  by_cases h1 : (look 9 127 0 rs 0).2.2 = 0
  · rw [if_pos h1] at h ⊢
    by_cases h2 : most < ((look 9 127 0 rs 0).1 : Int)
    · rw [if_pos h2] at h
      exact absurd h hab
    · rw [if_neg h2]
      obtain ⟨n, e1, e2, e3, _, _⟩ := look_inv 9 127 (by omega) rs 9 0 0 (by omega) (by omega) h1
      rw [Nat.pow_zero, Nat.mul_one, Nat.zero_add] at e1
      rw [Nat.zero_add] at e2
      exact ⟨n, by simp [e1], by omega, by omega, e2, e3⟩
  · rw [if_neg h1] at h
    exact absurd (by simpa using h) h1

theorem runR_inv (rs : List UInt8) (most : Int) (h : (runR rs most).2.2 = 0) : ((runR rs most).1.length : Int) ≤ most ∧ (runR rs most).2.1 = (enc 9 (runR rs most).1.length ++ (runR rs most).1).length ∧ rs = (enc 9 (runR rs most).1.length ++ (runR rs most).1) ++ rs.drop (enc 9 (runR rs most).1.length ++ (runR rs most).1).length := by
  rw [runR_eq] at h ⊢
  by_cases h1 : (numR rs most 14).2.2 = 0
  · rw [if_pos h1] at h ⊢
    obtain ⟨n, e1, e0, e2, e3, e4⟩ := numR_inv rs most 14 h1 (by omega)
    by_cases h2 : ((rs.length - (numR rs most 14).2.1 : Nat) : Int) < (numR rs most 14).1
    · rw [if_pos h2] at h; simp at h
    · rw [if_neg h2]
      rw [e1, e3] at h2 ⊢
      have hl : ((rs.drop (enc 9 n).length).take n).length = n := by simp; omega
      simp only [Int.toNat_natCast]
      rw [hl, List.length_append, hl]
      refine ⟨e0, rfl, ?_⟩
      rw [List.append_assoc, ← List.drop_drop, List.take_append_drop]
      exact e4
  · rw [if_neg h1] at h
    exact absurd h h1

theorem aft_err (r : Rst) (size : Nat) (e : Int) (h : (r.aft size e).err = 0) : e = 0 ∧ r.err = 0 := by
  unfold Rst.aft aft at h
  by_cases he : e = 0
  · rw [if_pos he] at h
    exact ⟨he, h⟩
  · rw [if_neg he] at h
    simp only [keepE] at h
    split at h
    · exact absurd h he
    · exact absurd h (by assumption)
theorem aft_zero (r : Rst) (size : Nat) : r.aft size 0 = ⟨r.rs.drop size, r.place + size, r.err⟩ := by simp [Rst.aft, aft]

/-- A number that was read whole. -/
theorem num_inv (r : Rst) (m : Int) (h : (r.num m).err = 0) : r.err = 0 ∧ ∃ n : Nat, r.numV m = (n : Int) ∧ (n : Int) ≤ m ∧ n < 9223372036854775808 ∧ r.rs = enc 9 n ++ (r.num m).rs ∧ (r.num m).place = r.place + (enc 9 n).length := by
  obtain ⟨h1, h2⟩ := aft_err r _ _ h
  obtain ⟨n, e1, e0, e2, e3, e4⟩ := numR_inv r.rs m 13 h1 (by omega)
  refine ⟨h2, n, e1, e0, e2, ?_, ?_⟩
  · rw [Rst.num, h1, aft_zero, e3]; exact e4
  · rw [Rst.num, h1, aft_zero, e3]
theorem strB_size (l : List UInt8) : (strB l).size = l.length := by simp [strB, ByteArray.size]
theorem strB_data (l : List UInt8) : (strB l).data.toList = l := by simp [strB]
theorem txt_inv (r : Rst) (m : Int) (h : (r.txt m).err = 0) : r.err = 0 ∧ ((r.txtV m).size : Int) ≤ m ∧ r.rs = txtB (r.txtV m) ++ (r.txt m).rs ∧ (r.txt m).place = r.place + (txtB (r.txtV m)).length := by
  obtain ⟨h1, h2⟩ := aft_err r _ _ h
  obtain ⟨e0, e3, e4⟩ := runR_inv r.rs m h1
  have et : txtB (r.txtV m) = enc 9 (runR r.rs m).1.length ++ (runR r.rs m).1 := by
    unfold txtB Rst.txtV
    rw [strB_size, strB_data]
  refine ⟨h2, ?_, ?_, ?_⟩
  · rw [Rst.txtV, strB_size]; exact e0
  · rw [et, Rst.txt, h1, aft_zero, e3]; exact e4
  · rw [et, Rst.txt, h1, aft_zero, e3]
theorem fail_err (r : Rst) (e : Int) (h : (r.fail e).err = 0) : e = 0 ∧ r.err = 0 ∧ r.fail e = r := by
  unfold Rst.fail at h ⊢
  by_cases he : e = 0
  · rw [if_pos he] at h ⊢
    exact ⟨he, h, rfl⟩
  · rw [if_neg he] at h
    simp only [keepE] at h
    split at h
    · exact absurd h he
    · exact absurd h (by assumption)

/-- Texts that are read one behind the other. -/
def Rst.items (r : Rst) : Nat → List ByteArray × Rst
  | 0 => ([], r)
  | n + 1 => ((r.items n).1 ++ [(r.items n).2.txtV 64], (r.items n).2.txt 64)
theorem items_len (r : Rst) (n : Nat) : (r.items n).1.length = n := by
  induction n with
  | zero => rfl
  | succ n ih => simp [Rst.items, ih]
theorem items_size (r : Rst) (n : Nat) : (r.items n).2.size ≤ r.size := by
  induction n with
  | zero => exact Nat.le_refl _
  | succ n ih => exact Nat.le_trans (txt_size _ _) ih
/-- What GetOp answers. -/
def gotV (R : Rst) (k : Int) (nm tx : ByteArray) (n m : Int) : Value := if R.err = 0 then opV k nm tx n m else opV 0 emp emp 0 0
theorem res26 {tmps : Array Value} {w : World} {b : Nat} {k n m : Int} {nm tx : ByteArray} (ht : tmps.getD 2 undef = .pointer (some ⟨b, 0, none⟩)) (h : w.heap[b]? = some (.cells #[.int .i64 k, .string nm, .string tx, .int .i64 n, .int .i64 m] 23 (0, 0))) : (results Tryd.f26 tmps).run Tryd.prog w = .ok (opV k nm tx n m) w := by
  have hp' : tmps[2]?.getD undef = .pointer (some ⟨b, 0, none⟩) := by simpa using ht
  have hres : Tryd.f26.results = #[.cell 2 23] := rfl
  have x0 : w.cell? ⟨b, 0, none⟩ = some (.int .i64 k) := by rw [cell_at h]; rfl
  have x1 : w.cell? ⟨b, 1, none⟩ = some (.string nm) := by rw [cell_at h]; rfl
  have x2 : w.cell? ⟨b, 2, none⟩ = some (.string tx) := by rw [cell_at h]; rfl
  have x3 : w.cell? ⟨b, 3, none⟩ = some (.int .i64 n) := by rw [cell_at h]; rfl
  have x4 : w.cell? ⟨b, 4, none⟩ = some (.int .i64 m) := by rw [cell_at h]; rfl
  simp only [results, hres]
  go_simp

theorem textsB_snoc (l : List ByteArray) (t : ByteArray) : textsB (l ++ [t]) = textsB l ++ txtB t := by simp [textsB, txtB]
theorem items_inv (r : Rst) (n : Nat) (h : (r.items n).2.err = 0) : r.err = 0 ∧ (∀ t ∈ (r.items n).1, t.size ≤ 64) ∧ r.rs = textsB (r.items n).1 ++ (r.items n).2.rs ∧ (r.items n).2.place = r.place + (textsB (r.items n).1).length := by
  induction n with
  | zero => exact ⟨h, by simp [Rst.items], by simp [Rst.items, textsB], by simp [Rst.items, textsB]⟩
  | succ n ih =>
    have h' : ((r.items n).2.txt 64).err = 0 := h
    obtain ⟨a1, a2, a3, a4⟩ := txt_inv _ 64 h'
    obtain ⟨b1, b2, b3, b4⟩ := ih a1
    refine ⟨b1, ?_, ?_, ?_⟩
    · intro t ht
      rcases List.mem_append.1 ht with ht | ht
      · exact b2 t ht
      · have : t = (r.items n).2.txtV 64 := by simpa using ht
        subst this
        omega
    · rw [b3]
      show _ = textsB ((r.items n).1 ++ [(r.items n).2.txtV 64]) ++ ((r.items n).2.txt 64).rs
      rw [textsB_snoc, List.append_assoc, ← a3]
    · show ((r.items n).2.txt 64).place = r.place + (textsB ((r.items n).1 ++ [(r.items n).2.txtV 64])).length
      rw [a4, b4, textsB_snoc, List.length_append]
      omega
end Go.Proofs.YtkcepkehgkkkbaaDoor

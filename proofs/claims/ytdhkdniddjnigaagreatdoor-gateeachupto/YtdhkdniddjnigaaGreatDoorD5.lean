import Derived.Test.YtdhkdniddjnigaaGreatDoorD4
namespace Go.Proofs.YtdhkdniddjnigaaGreatDoor
open Go.RowKit Go.Lib
set_option linter.unusedVariables false

/-- An op's words. -/
def opW (k : Nat) (nm tx : List UInt8) (n m : Nat) : Ws := nmN k :: flds nm tx n m (ltN k)
/-- What the check tells. -/
def chkO (k : Int) (nm tx : List UInt8) (n m : Int) : Int := chkA k nm.length tx.length n m
def opA (k : Int) (nm tx : List UInt8) (n m : Int) : Ws := if chkO k nm tx n m ≠ 0 then [] else opW k.toNat nm tx n.toNat m.toNat
theorem wr_ok {a b n : Int} (h : wr a b n = false) (hx : ex b n = false) (ha : 0 ≤ a) : 0 ≤ n ∧ (n ≤ b ∨ n = 0) ∧ (¬ 0 < b → n = 0) ∧ (0 < b → a ≤ n) := by
  by_cases hb : 0 < b
  · have h1 : a ≤ n ∧ n ≤ b := by simpa [wr, hs, hl, hb] using h
    refine ⟨by omega, Or.inl h1.2, fun h => absurd hb h, fun _ => h1.1⟩
  · have h1 : n = 0 := by simpa [ex, hs, hb] using hx
    exact ⟨by omega, Or.inr h1, fun _ => h1, fun h => absurd h hb⟩
theorem chkR_zero {a0 a1 a2 a3 a4 a5 a6 a7 s t n m : Int} (h : chkR a0 a1 a2 a3 a4 a5 a6 a7 s t n m = 0) : wr a0 a1 s = false ∧ wr a2 a3 t = false ∧ wr a4 a5 n = false ∧ wr a6 a7 m = false ∧ ex a1 s = false ∧ ex a3 t = false ∧ ex a5 n = false ∧ ex a7 m = false := by
  unfold chkR at h
  repeat' (split at h; · simp at h)
  simp_all
/-- What holds of an op that the check lets pass. -/
theorem chkO_zero {k : Int} {nm tx : List UInt8} {n m : Int} (h : chkO k nm tx n m = 0) : 1 ≤ k ∧ k ≤ 8 ∧ 0 ≤ n ∧ n ≤ 1099511627776 ∧ 0 ≤ m ∧ m ≤ 1099511627776 ∧ nm.length ≤ 64 ∧ tx.length ≤ 64
    ∧ (78 ∉ ltN k.toNat → nm = []) ∧ (84 ∉ ltN k.toNat → tx = []) ∧ (75 ∉ ltN k.toNat → n = 0) ∧ (77 ∉ ltN k.toNat → m = 0) := by
  unfold chkO chkA at h
  by_cases hk : k < 1 ∨ 8 < k
  · rw [if_pos hk] at h; simp at h
  rw [if_neg hk] at h
  unfold chkT at h
  obtain ⟨h1, h2, h3, h4, h5, h6, h7, h8⟩ := chkR_zero h
  clear h
  generalize hs1 : (nm.length : Int) = s1 at *
  generalize hs2 : (tx.length : Int) = s2 at *
  have hnm : ∀ {l : List UInt8}, (l.length : Int) = 0 → l = [] := fun {l} h => List.eq_nil_of_length_eq_zero (by omega)
  obtain rfl | rfl | rfl | rfl | rfl | rfl | rfl | rfl : k = 1 ∨ k = 2 ∨ k = 3 ∨ k = 4 ∨ k = 5 ∨ k = 6 ∨ k = 7 ∨ k = 8 := by omega
  all_goals
    have q1 := wr_ok h1 h5 (by decide)
    have q2 := wr_ok h2 h6 (by decide)
    have q3 := wr_ok h3 h7 (by decide)
    have q4 := wr_ok h4 h8 (by decide)
    clear h1 h2 h3 h4 h5 h6 h7 h8 hk
    simp [formN] at q1 q2 q3 q4
    refine ⟨by omega, by omega, by omega, by omega, by omega, by omega, by omega, by omega, fun hx => ?_, fun hx => ?_, fun hx => ?_, fun hx => ?_⟩
    all_goals first | omega | exact absurd (by decide) hx | (exact hnm (by omega))

theorem chkO_any {k : Int} {nm tx : List UInt8} {n m : Int} {w : World} (hT : Tab w) : Calls Tryz.prog 169 #[opV k ⟨nm.toArray⟩ ⟨tx.toArray⟩ n m] w fun e w' => e = .returned (.int .i64 (chkO k nm tx n m)) ∧ Below w.heap.size w w' := by
  have := check_any hT k ⟨nm.toArray⟩ ⟨tx.toArray⟩ n m
  have e1 : (⟨nm.toArray⟩ : ByteArray).size = nm.length := by simp [ByteArray.size]
  have e2 : (⟨tx.toArray⟩ : ByteArray).size = tx.length := by simp [ByteArray.size]
  rw [e1, e2] at this
  exact this

theorem blk5 {B : Nat} {a b c d e : Value} {t : TypeId} {cs : List Comp} {w : World} (h : All cs w) (hm : blkC B [a, b, c, d, e] t ∈ cs) : w.cell? ⟨B, 0, none⟩ = some a ∧ w.cell? ⟨B, 1, none⟩ = some b ∧ w.cell? ⟨B, 2, none⟩ = some c ∧ w.cell? ⟨B, 3, none⟩ = some d ∧ w.cell? ⟨B, 4, none⟩ = some e ∧ B < w.heap.size := by
  have hb := (h.mem hm).2.1
  exact ⟨by rw [cell_at hb]; rfl, by rw [cell_at hb]; rfl, by rw [cell_at hb]; rfl, by rw [cell_at hb]; rfl, by rw [cell_at hb]; rfl, (h.mem hm).2.2 B (by simp [blkC])⟩
theorem blk2 {B : Nat} {a b : Value} {t : TypeId} {cs : List Comp} {w : World} (h : All cs w) (hm : blkC B [a, b] t ∈ cs) : w.cell? ⟨B, 0, none⟩ = some a ∧ w.cell? ⟨B, 1, none⟩ = some b ∧ B < w.heap.size := by
  have hb := (h.mem hm).2.1
  exact ⟨by rw [cell_at hb]; rfl, by rw [cell_at hb]; rfl, (h.mem hm).2.2 B (by simp [blkC])⟩

end Go.Proofs.YtdhkdniddjnigaaGreatDoor

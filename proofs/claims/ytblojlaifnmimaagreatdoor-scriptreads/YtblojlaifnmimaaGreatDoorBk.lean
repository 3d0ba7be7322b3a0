import Derived.Test.YtblojlaifnmimaaGreatDoorPr
namespace Go.Proofs.YtblojlaifnmimaaGreatDoor
set_option linter.unusedVariables false

/-- A step's letters, kind by kind. -/
theorem kinds13 {P : Nat → List UInt8 → Prop} (h1 : ∀ k, k = 1 ∨ k = 2 ∨ k = 9 ∨ k = 10 ∨ k = 11 → P k [65]) (h3 : P 3 [65, 79]) (h4 : P 4 [65, 75, 79]) (h5 : ∀ k, k = 5 ∨ k = 6 ∨ k = 7 ∨ k = 13 → P k [75]) (h8 : P 8 [75, 88, 89]) (h12 : P 12 []) {k : Nat} (hk1 : 1 ≤ k) (hk13 : k ≤ 13) : P k (slN k) := by
  obtain rfl | rfl | rfl | rfl | rfl | rfl | rfl | rfl | rfl | rfl | rfl | rfl | rfl : k = 1 ∨ k = 2 ∨ k = 3 ∨ k = 4 ∨ k = 5 ∨ k = 6 ∨ k = 7 ∨ k = 8 ∨ k = 9 ∨ k = 10 ∨ k = 11 ∨ k = 12 ∨ k = 13 := by omega
  · exact h1 1 (by omega)
  · exact h1 2 (by omega)
  · exact h3
  · exact h4
  · exact h5 5 (by omega)
  · exact h5 6 (by omega)
  · exact h5 7 (by omega)
  · exact h8
  · exact h1 9 (by omega)
  · exact h1 10 (by omega)
  · exact h1 11 (by omega)
  · exact h12
  · exact h5 13 (by omega)
theorem num_back {n : Int} (h0 : 0 ≤ n) (h : n ≤ 9223372036854775807) : numW (Lib.decDigits n.toNat) = some n.toNat := numW_digits (by omega)
theorem op_back {o : OpI} (h : opE o = 0) : (readO (opWs o)).e = 0 ∧ (readO (opWs o)).k = (opWs o).length ∧ (readO (opWs o)).o.toI = o := by
  have h1 := readO_back (b := []) h
  rw [List.append_nil] at h1
  obtain ⟨_, _, hn0, _, hm0, _, _⟩ := chkO_zero h
  unfold opWs
  rw [h1]
  refine ⟨rfl, rfl, ?_⟩
  obtain ⟨k, nm, tx, n, m⟩ := o
  simp only [OpR.toI, OpI.mk.injEq, true_and] at *
  omega
/-- What is written of a step is read as the step. -/
theorem sgo_back {s : Sp} (hI : spI s) {k : Nat} (hk1 : 1 ≤ k) (hk13 : k ≤ 13) (hp : posS (slN k) s = true) (ho : onlyS (slN k) s ⟨(k : Int), 0, 0, 0, 0, .zero⟩ = s) (hop : 79 ∈ slN k → opE s.o = 0) : sgo (slN k) ((slN k).flatMap (fieldS s)) ⟨(k : Int), 0, 0, 0, 0, .zero⟩ = (s, 0) := by
  obtain ⟨i1, i2, i3, i4⟩ := hI
  revert hp ho hop
  refine kinds13 (P := fun k lt => posS lt s = true → onlyS lt s ⟨(k : Int), 0, 0, 0, 0, .zero⟩ = s → (79 ∈ lt → opE s.o = 0) → sgo lt (lt.flatMap (fieldS s)) ⟨(k : Int), 0, 0, 0, 0, .zero⟩ = (s, 0)) ?_ ?_ ?_ ?_ ?_ ?_ hk1 hk13
  · intro k _ hp ho _
    have g : 0 ≤ s.a := by simpa [posS, getS] using hp
    have ho : (⟨(k : Int), s.a, 0, 0, 0, .zero⟩ : Sp) = s := ho
    show sgo [65] [Lib.decDigits s.a.toNat] _ = _
    simp only [sgo, num_back g i1]
    rw [if_neg (by decide), if_pos trivial]
    show ((⟨(k : Int), (s.a.toNat : Int), 0, 0, 0, .zero⟩ : Sp), (0 : Int)) = _
    rw [Int.toNat_of_nonneg g, ho]
  · intro hp ho hop
    have g : 0 ≤ s.a := by simpa [posS, getS] using hp
    have ho : (⟨((3 : Nat) : Int), s.a, 0, 0, 0, s.o⟩ : Sp) = s := ho
    obtain ⟨b1, b2, b3⟩ := op_back (hop (by decide))
    show sgo [65, 79] (Lib.decDigits s.a.toNat :: (opWs s.o ++ [])) _ = _
    rw [List.append_nil]
    simp only [sgo, num_back g i1]
    rw [if_neg (by decide), if_pos trivial, if_neg (by rw [b1]; simp), if_neg (by rw [b2]; simp), b3]
    show ((⟨((3 : Nat) : Int), (s.a.toNat : Int), 0, 0, 0, s.o⟩ : Sp), (0 : Int)) = _
    rw [Int.toNat_of_nonneg g, ho]
  · intro hp ho hop
    have g : 0 ≤ s.a ∧ 0 ≤ s.b := by simpa [posS, getS] using hp
    have ho : (⟨((4 : Nat) : Int), s.a, s.b, 0, 0, s.o⟩ : Sp) = s := ho
    obtain ⟨b1, b2, b3⟩ := op_back (hop (by decide))
    show sgo [65, 75, 79] (Lib.decDigits s.a.toNat :: Lib.decDigits s.b.toNat :: (opWs s.o ++ [])) _ = _
    rw [List.append_nil]
    simp only [sgo, num_back g.1 i1, num_back g.2 i2]
    rw [if_neg (by decide), if_neg (by decide), if_pos trivial, if_neg (by rw [b1]; simp), if_neg (by rw [b2]; simp), b3]
    show ((⟨((4 : Nat) : Int), (s.a.toNat : Int), (s.b.toNat : Int), 0, 0, s.o⟩ : Sp), (0 : Int)) = _
    rw [Int.toNat_of_nonneg g.1, Int.toNat_of_nonneg g.2, ho]
  · intro k _ hp ho _
    have g : 0 ≤ s.b := by simpa [posS, getS] using hp
    have ho : (⟨(k : Int), 0, s.b, 0, 0, .zero⟩ : Sp) = s := ho
    show sgo [75] [Lib.decDigits s.b.toNat] _ = _
    simp only [sgo, num_back g i2]
    rw [if_neg (by decide), if_pos trivial]
    show ((⟨(k : Int), 0, (s.b.toNat : Int), 0, 0, .zero⟩ : Sp), (0 : Int)) = _
    rw [Int.toNat_of_nonneg g, ho]
  · intro hp ho _
    have g : 0 ≤ s.b ∧ 0 ≤ s.x ∧ 0 ≤ s.y := by simpa [posS, getS] using hp
    have ho : (⟨((8 : Nat) : Int), 0, s.b, s.x, s.y, .zero⟩ : Sp) = s := ho
    show sgo [75, 88, 89] [Lib.decDigits s.b.toNat, Lib.decDigits s.x.toNat, Lib.decDigits s.y.toNat] _ = _
    simp only [sgo, num_back g.1 i2, num_back g.2.1 i3, num_back g.2.2 i4]
    rw [if_neg (by decide), if_neg (by decide), if_neg (by decide), if_pos trivial]
    show ((⟨((8 : Nat) : Int), 0, (s.b.toNat : Int), (s.x.toNat : Int), (s.y.toNat : Int), .zero⟩ : Sp), (0 : Int)) = _
    rw [Int.toNat_of_nonneg g.1, Int.toNat_of_nonneg g.2.1, Int.toNat_of_nonneg g.2.2, ho]
  · intro hp ho _
    have ho : (⟨((12 : Nat) : Int), 0, 0, 0, 0, .zero⟩ : Sp) = s := ho
    show sgo [] [] _ = _
    rw [sgo, if_pos rfl, ho]
theorem kindS_back {k : Nat} (hk1 : 1 ≤ k) (hk13 : k ≤ 13) : kindS (snN k) = some k := by
  obtain rfl | rfl | rfl | rfl | rfl | rfl | rfl | rfl | rfl | rfl | rfl | rfl | rfl : k = 1 ∨ k = 2 ∨ k = 3 ∨ k = 4 ∨ k = 5 ∨ k = 6 ∨ k = 7 ∨ k = 8 ∨ k = 9 ∨ k = 10 ∨ k = 11 ∨ k = 12 ∨ k = 13 := by omega
  all_goals decide
theorem step_back {s : Sp} (hI : spI s) (h : stepE s = 0) : stepR (stepWs s) = (s, 0) := by
  have hm : mayS s = true := by
    unfold stepE at h
    cases hm : mayS s
    · rw [hm, if_pos rfl] at h; simp at h
    · rfl
  obtain ⟨h1, h13, hpos⟩ := mayS_true hm
  obtain ⟨k, hk⟩ := Int.eq_ofNat_of_zero_le (show 0 ≤ s.k by omega)
  have hon : onlyS (slN k) s ⟨(k : Int), 0, 0, 0, 0, .zero⟩ = s := by
    unfold mayS at hm
    simp only [Bool.and_eq_true, decide_eq_true_eq] at hm
    have := hm.2
    rw [hk, Int.toNat_natCast] at this
    exact this
  have hop : 79 ∈ slN k → opE s.o = 0 := fun hin => by
    unfold stepE at h
    rw [if_neg (by rw [hm]; decide), hk, Int.toNat_natCast, if_pos hin] at h
    exact h
  rw [hk, Int.toNat_natCast] at hpos
  unfold stepWs stepR
  rw [if_neg (by rw [h]; simp), hk, Int.toNat_natCast]
  show (match kindS (snN k) with | none => _ | some k => _) = _
  rw [kindS_back (by omega) (by omega)]
  exact sgo_back hI (by omega) (by omega) hpos hon hop
end Go.Proofs.YtblojlaifnmimaaGreatDoor

import Derived.Test.YtpfpamkbahgkpaaLaw1
namespace Go.Proofs.Ytpfpamkbahgkpaa
open Go.RowKit
set_option linter.unusedVariables false

/-- Bytes that are others at one place at most. -/
def Near (bs l : List UInt8) (u : Int) : Prop := bs.length = l.length ∧ 0 ≤ u ∧ u ≤ l.length ∧ ∀ j : Nat, j < l.length → (j : Int) ≠ u - 1 → bs.getD j 0 = l.getD j 0

set_option maxHeartbeats 1600000 in
set_option maxRecDepth 1000000 in
theorem nearly_true {p : Pk} {s : Value} {l : List UInt8} {w : World} (h1 : Reads w p.D p.bs) (h2 : Reads w s l) (hl : l.length ≤ 140737488355328) (h : Near p.bs l p.u) :
    Calls Try.prog 23 #[p.V, s] w fun e w' => e = .returned (.bool true) ∧ Below w.heap.size w w' := by
  obtain ⟨hlen, hu0, hu1, hj⟩ := h
  obtain ⟨ao, c, hs⟩ := h2.form
  subst hs
  obtain ⟨n, hnn⟩ : ∃ n, Hid (n = l.length) := ⟨_, hid rfl⟩
  have HL : Hid (p.bs.length = n) := hid (by rw [hlen, hnn.out])
  have A0 : Hid (All [blkC w.heap.size p.cells 49, inC w] (w.alloc (.cells p.cells.toArray 49))) := hid ((All.came w).addBlk p.cells 49)
  have R1 : Hid (∀ q, Reads ((w.alloc (.cells p.cells.toArray 49)).drewN q) (.slice p.ao n p.c) p.bs) := hid (fun q => by
    have : Reads w (.slice p.ao p.bs.length p.c) p.bs := h1
    rw [HL.out] at this
    exact (this.below (ba w _)).drewN q)
  have R2 : Hid (∀ q, Reads ((w.alloc (.cells p.cells.toArray 49)).drewN q) (.slice ao n c) l) := hid (fun q => by
    have := (h2.below (ba w (.cells p.cells.toArray 49))).drewN q
    rwa [← hnn.out] at this)
  have eW : w.alloc (.cells #[.int .i64 p.n, .int .i64 p.f, .int .i64 p.t, .int .i64 p.a, .int .i64 p.u, .slice p.ao n p.c] 49) = w.alloc (.cells p.cells.toArray 49) := by rw [← HL.out]; rfl
  obtain ⟨⟨s1, s2, s3, s4, s5, s6⟩, sf⟩ := pkAt_blk A0.out
  simp only [Nat.zero_add] at s1 s2 s3 s4 s5 s6
  rw [HL.out] at s6
  rw [← hnn.out] at hl hu1
  have HJ := hid hj
  have B0 : Hid (Below w.heap.size w (w.alloc (.cells p.cells.toArray 49))) := hid (ba w _)
  show Calls Try.prog 23 #[.agg #[.int .i64 p.n, .int .i64 p.f, .int .i64 p.t, .int .i64 p.a, .int .i64 p.u, .slice p.ao p.bs.length p.c], .slice ao l.length c] w _
  rw [HL.out, ← hnn.out]
  clear h1 h2 hlen hj A0
  generalize w.alloc (.cells p.cells.toArray 49) = w1 at *
  have hu0' : ¬ p.u < 0 := by omega
  have hu1' : ¬ (n : Int) < p.u := by omega
  go_enter Try.func23, Try.ntmps23
  go_wp2
  go_loopw [5] (fun iv wr => ∃ (i q : Nat), i ≤ n ∧ iv = .int .i64 (i : Int) ∧ wr = w1.drewN q) (fun iv _ => n - (intOf iv).toNat)
  case atStart => exact ⟨0, 0, by omega, rfl, rfl⟩
  case round =>
    obtain ⟨i, q, hi, rfl, hw⟩ := hrel
    have s5 : wr.cell? ⟨w.heap.size, 4, none⟩ = some (.int .i64 p.u) := by rw [hw]; exact s5
    have s6 : wr.cell? ⟨w.heap.size, 5, none⟩ = some (.slice p.ao n p.c) := by rw [hw]; exact s6
    by_cases hlt : i < n
    · have hlt' := hlt
      rw [hnn.out] at hlt'
      obtain ⟨g, o, e1, c1⟩ := (R1.out q).at_u8 i (by rw [HL.out]; exact hlt)
      obtain ⟨g', o', e2, c2⟩ := (R2.out q).at_u8 i hlt'
      rw [← hw] at c1 c2
      have hii : (i : Int) < (n : Int) := by omega
      have hJ := HJ.out i hlt'
      rw [e1] at s6
      have HW := hid hw
      subst e2
      obtain ⟨x, hx⟩ : ∃ x, Hid (x = (p.bs.getD i 0).toNat) := ⟨_, hid rfl⟩
      obtain ⟨y, hy⟩ : ∃ y, Hid (y = (l.getD i 0).toNat) := ⟨_, hid rfl⟩
      rw [← hx.out] at c1
      rw [← hy.out] at c2
      have hxy : x = y ∨ (x ≠ y ∧ (i : Int) = p.u - 1) := by
        by_cases e : (i : Int) = p.u - 1
        · by_cases e3 : x = y
          · exact Or.inl e3
          · exact Or.inr ⟨e3, e⟩
        · exact Or.inl (by rw [hx.out, hy.out, hJ e])
      clear hJ hw hlt' e1
      rcases hxy with hxy | ⟨hxy, hiu⟩
      · have hb : ((x : Int) != (y : Int)) = false := by simp [hxy]
        have HX := hid hxy
        clear hxy
        go_wp2
        go_quiet (fail)
        go_wp2
        go_roundw
        case rel => exact ⟨i + 1, _, by omega, by go_num, by rw [HW.out]; simp [World.drewN, Nat.add_assoc]; rfl⟩
        case measure => simp [intOf]; omega
      · have hb : ((x : Int) != (y : Int)) = true := by simp; omega
        have hb2 : ((i : Int) != p.u - 1) = false := by simp [hiu]
        have HX := hid hxy
        have HU := hid hiu
        clear hxy hiu
        go_wp2
        go_quiet (fail)
        go_wp2
        go_roundw
        case rel => exact ⟨i + 1, _, by omega, by go_num, by rw [HW.out]; simp [World.drewN, Nat.add_assoc]; rfl⟩
        case measure => simp [intOf]; omega
    · go_wp2
      go_ret
      exact ⟨rfl, B0.out.trans ((bdN w1 q).mono B0.out.size)⟩
end Go.Proofs.Ytpfpamkbahgkpaa

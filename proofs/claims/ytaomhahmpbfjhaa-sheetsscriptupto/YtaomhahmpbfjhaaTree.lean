import Derived.Test.YtaomhahmpbfjhaaJ1
namespace Go.Proofs.Ytaomhahmpbfjhaa
open Go.RowKit
set_option linter.unusedVariables false

/-- Nodes by their numbers: a stamp, the slice, its bytes. -/
abbrev Nodes := Nat → Nat × Value × List UInt8

/-- A tree as it is read at a place. -/
structure View (w : World) (g o lv : Nat) (N : Nodes) : Prop where
  leaves : w.cell? ⟨g, o, none⟩ = some (.int .i64 (lv : Int))
  node : ∀ k, k < 128 → ∃ p, w.cell? ⟨g, o + 1 + k / 8, none⟩ = some (.pointer (some ⟨p, 0, none⟩)) ∧ w.cell? ⟨p, k % 8 * 2, none⟩ = some (.int .i64 ((N k).1 : Int)) ∧ w.cell? ⟨p, k % 8 * 2 + 1, none⟩ = some (N k).2.1 ∧ Reads w (N k).2.1 (N k).2.2

theorem lt_of_cell {w : World} {g j : Nat} {u : Value} (h : w.cell? ⟨g, j, none⟩ = some u) : g < w.heap.size := by
  unfold World.cell? at h
  rcases Nat.lt_or_ge g w.heap.size with hl | hl
  · exact hl
  · rw [Array.getElem?_eq_none hl] at h; cases h

theorem View.below {w w' : World} {g o lv : Nat} {N : Nodes} (h : View w g o lv N) (hb : Below w.heap.size w w') : View w' g o lv N := by
  refine ⟨cell_under hb (lt_of_cell h.leaves) h.leaves, fun k hk => ?_⟩
  obtain ⟨p, h1, h2, h3, h4⟩ := h.node k hk
  exact ⟨p, cell_under hb (lt_of_cell h1) h1, cell_under hb (lt_of_cell h2) h2, cell_under hb (lt_of_cell h3) h3, h4.below hb⟩

theorem tdiv8 (k : Nat) : Int.tdiv (k : Int) 8 = ((k / 8 : Nat) : Int) := by
  rw [Int.tdiv_eq_ediv_of_nonneg (by omega)]; rfl
theorem tmod8 (k : Nat) : Int.tmod (k : Int) 8 = ((k % 8 : Nat) : Int) := by
  rw [Int.tmod_eq_emod_of_nonneg (by omega)]; rfl

set_option maxHeartbeats 1000000 in
theorem node_any {w : World} {g o k p : Nat} (hk : k < 128) (hp : w.cell? ⟨g, o + 1 + k / 8, none⟩ = some (.pointer (some ⟨p, 0, none⟩))) : Calls Try.prog 42 #[.pointer (some ⟨g, o, none⟩), .int .i64 (k : Int)] w fun e w' => e = .returned (.pointer (some ⟨p, k % 8 * 2, none⟩)) ∧ w' = w := by
  have d := tdiv8 k
  have m := tmod8 k
  have hq : k / 8 < 16 := by omega
  have hr : k % 8 < 8 := by omega
  obtain ⟨q, hq'⟩ : ∃ q, Hid (q = k / 8) := ⟨_, hid rfl⟩
  obtain ⟨r, hr'⟩ : ∃ r, Hid (r = k % 8) := ⟨_, hid rfl⟩
  rw [← hq'.out] at d hp hq
  rw [← hr'.out] at m hr ⊢
  have b1 : (q : Int) < 16 := by omega
  have b2 : (r : Int) < 8 := by omega
  go_enter Try.func42, Try.ntmps42
  go_wp2
  go_ret
  exact ⟨rfl, rfl⟩

set_option maxHeartbeats 1000000 in
theorem isLeaf_any {w : World} {g o k lv : Nat} (h : w.cell? ⟨g, o, none⟩ = some (.int .i64 (lv : Int))) : Calls Try.prog 43 #[.pointer (some ⟨g, o, none⟩), .int .i64 (k : Int)] w fun e w' => e = .returned (.bool (decide (lv ≤ k))) ∧ w' = w := by
  go_enter Try.func43, Try.ntmps43
  go_wp2
  go_ret
  exact ⟨by simp, rfl⟩

set_option maxHeartbeats 1000000 in
theorem leaf_any {w : World} {g o k p lv : Nat} (hk : lv + k < 128) (h : w.cell? ⟨g, o, none⟩ = some (.int .i64 (lv : Int))) (hp : w.cell? ⟨g, o + 1 + (lv + k) / 8, none⟩ = some (.pointer (some ⟨p, 0, none⟩))) : Calls Try.prog 36 #[.pointer (some ⟨g, o, none⟩), .int .i64 (k : Int)] w fun e w' => e = .returned (.pointer (some ⟨p, (lv + k) % 8 * 2, none⟩)) ∧ w' = w := by
  have H := hid (node_any hk hp)
  have hw : IntKind.i64.wrap ((lv : Int) + (k : Int)) = ((lv + k : Nat) : Int) := by rw [IntKind.wrap_i64]; omega
  generalize lv + k = n at *
  clear hk hp
  go_enter Try.func36, Try.ntmps36
  go_wp2_with (go_at_call 42; refine H.out.mono ?_; rintro e w' ⟨rfl, rfl⟩)
  go_ret
  exact ⟨rfl, rfl⟩

set_option maxHeartbeats 1000000 in
theorem last_any {w : World} {g o p x : Nat} (hp : w.cell? ⟨g, o + 1, none⟩ = some (.pointer (some ⟨p, 0, none⟩))) (hx : w.cell? ⟨p, 2, none⟩ = some (.int .i64 (x : Int))) : Calls Try.prog 45 #[.pointer (some ⟨g, o, none⟩)] w fun e w' => e = .returned (.int .i64 (x : Int)) ∧ w' = w := by
  have H := hid (node_any (w := w) (g := g) (o := o) (k := 1) (p := p) (by omega) hp)
  go_enter Try.func45, Try.ntmps45
  go_wp2_with (go_at_call 42; refine H.out.mono ?_; rintro e w' ⟨rfl, rfl⟩)
  go_ret
  exact ⟨rfl, rfl⟩

set_option maxHeartbeats 1000000 in
theorem Last_any {w : World} {g p x : Nat} (hp : w.cell? ⟨g, 2, none⟩ = some (.pointer (some ⟨p, 0, none⟩))) (hx : w.cell? ⟨p, 2, none⟩ = some (.int .i64 (x : Int))) : Calls Try.prog 18 #[.pointer (some ⟨g, 0, none⟩)] w fun e w' => e = .returned (.int .i64 (x : Int)) ∧ w' = w := by
  have H := hid (last_any (w := w) (g := g) (o := 1) (p := p) hp hx)
  go_enter Try.func18, Try.ntmps18
  go_wp2_with (go_at_call 45; refine H.out.mono ?_; rintro e w' ⟨rfl, rfl⟩)
  go_ret
  exact ⟨rfl, rfl⟩

set_option maxHeartbeats 1000000 in
theorem has_any {w : World} {g n : Nat} (num : Int) (h : w.cell? ⟨g, 0, none⟩ = some (.int .i64 (n : Int))) : Calls Try.prog 33 #[.pointer (some ⟨g, 0, none⟩), .int .i64 num] w fun e w' => e = .returned (.bool (decide (0 ≤ num ∧ num < n))) ∧ w' = w := by
  by_cases h0 : 0 ≤ num
  · have d0 : decide (0 ≤ num) = true := by simpa using h0
    go_enter Try.func33, Try.ntmps33
    go_wp2
    go_ret
    exact ⟨by simp [h0], rfl⟩
  · have d0 : decide (0 ≤ num) = false := by simpa using h0
    go_enter Try.func33, Try.ntmps33
    go_wp2
    go_ret
    exact ⟨by simp, rfl⟩

set_option maxHeartbeats 1000000 in
theorem isStamp_any {w : World} (at_ : Int) : Calls Try.prog 34 #[.int .i64 at_] w fun e w' => e = .returned (.bool (decide (1 ≤ at_ ∧ at_ ≤ 1099511627776))) ∧ w' = w := by
  by_cases h0 : 1 ≤ at_
  · have d0 : decide (1 ≤ at_) = true := by simpa using h0
    go_enter Try.func34, Try.ntmps34
    go_wp2
    go_ret
    exact ⟨by simp [h0], rfl⟩
  · have d0 : decide (1 ≤ at_) = false := by simpa using h0
    go_enter Try.func34, Try.ntmps34
    go_wp2
    go_ret
    exact ⟨by simp, rfl⟩

end Go.Proofs.Ytaomhahmpbfjhaa

import Derived.Test.YtpfpamkbahgkpaaBg6
namespace Go.Proofs.Ytpfpamkbahgkpaa
open Go.RowKit
set_option linter.unusedVariables false

set_option maxRecDepth 1000000 in
theorem Flip_no {B : Bg} {k x y : Int} {cs : List Comp} {w : World} (h : All (B.L ++ cs) w) (hn : B.ps.length ≤ 1024) (hk : hasB k B.ps.length = false) : Calls Try.prog 25 #[B.V, .int .i64 k, .int .i64 x, .int .i64 y] w fun e w' => e = .returned (.int .i64 152) ∧ w' = w := by
  obtain ⟨ao', c', hv, hc⟩ := h.bagForm
  have hb := All.bagBlk (cs := []) h
  rw [hv] at hb
  have D := hid (has_any hb (by omega) k)
  rw [hk] at D
  clear h hb hv
  go_enter Try.func25, Try.ntmps25
  go_wp2_with (first | (go_at_call 49; refine D.out.mono ?_; rintro e w' ⟨rfl, rfl⟩))
  go_ret
  exact ⟨rfl, rfl⟩

/-- What Flip meets at a packet. -/
theorem flip_pre {B : Bg} {i : Nat} {p : Pk} {cs : List Comp} {w : World} (h : All (B.L ++ cs) w) (hn : B.ps.length ≤ 1024) (hp : B.ps[i]? = some p) : ∃ g c, B.v = .slice (some ⟨g, 0, none⟩) B.ps.length c ∧ i < B.ps.length ∧ w.cell? ⟨B.b, 2, none⟩ = some (.slice (some ⟨g, 0, none⟩) B.ps.length c) ∧ pkAt w g (i * 6) p ∧ Calls Try.prog 49 #[.pointer (some ⟨B.b, 0, none⟩), .int .i64 (i : Int)] w (fun e w' => e = .returned (.bool true) ∧ w' = w) := by
  have hi : i < B.ps.length := (List.getElem?_eq_some_iff.1 hp).1
  obtain ⟨g, c, hv, hg, hrg, _⟩ := row_at (All.bagRow (cs := []) h) hp
  have hb := All.bagBlk (cs := []) h
  rw [hv] at hb
  have D := has_any hb (by omega) (i : Int)
  rw [show hasB (i : Int) B.ps.length = true from decide_eq_true (by omega)] at D
  exact ⟨g, c, hv, hi, by rw [cell_at hb]; rfl, pkAt_of hrg, D⟩

set_option maxRecDepth 1000000 in
theorem Flip_place {B : Bg} {i : Nat} {p : Pk} {x y : Int} {cs : List Comp} {w : World} (h : All (B.L ++ cs) w) (hn : B.ps.length ≤ 1024) (hp : B.ps[i]? = some p) (hl : p.bs.length ≤ 140737488355328) (hx : hasB x p.bs.length = false) : Calls Try.prog 25 #[B.V, .int .i64 (i : Int), .int .i64 x, .int .i64 y] w fun e w' => e = .returned (.int .i64 153) ∧ w' = w := by
  obtain ⟨g, c, hv, hi, t2, ⟨s1, s2, s3, s4, s5, s6⟩, D⟩ := flip_pre h hn hp
  have hx' : ¬ (0 ≤ x ∧ x < p.bs.length) := of_decide_eq_false hx
  have D := hid D
  clear h hp hv hx
  generalize p.bs.length = m at *
  generalize B.ps.length = n at *
  have hii : (i : Int) < (n : Int) := by omega
  by_cases hx0 : x < 0
  · clear hx'
    go_enter Try.func25, Try.ntmps25
    go_wp2_with (first | (go_at_call 49; refine D.out.mono ?_; rintro e w' ⟨rfl, rfl⟩))
    go_ret
    exact ⟨rfl, rfl⟩
  · have hx1 : (m : Int) ≤ x := by omega
    clear hx'
    go_enter Try.func25, Try.ntmps25
    go_wp2_with (first | (go_at_call 49; refine D.out.mono ?_; rintro e w' ⟨rfl, rfl⟩))
    go_ret
    exact ⟨rfl, rfl⟩

set_option maxRecDepth 1000000 in
theorem Flip_same {B : Bg} {i x : Nat} {p : Pk} {y : Int} {cs : List Comp} {w : World} (h : All (B.L ++ cs) w) (hn : B.ps.length ≤ 1024) (hp : B.ps[i]? = some p) (hl : p.bs.length ≤ 140737488355328) (hx : x < p.bs.length) (hy : y < 1 ∨ 255 < y ∨ (p.u ≠ 0 ∧ p.u ≠ x + 1)) : Calls Try.prog 25 #[B.V, .int .i64 (i : Int), .int .i64 (x : Int), .int .i64 y] w fun e w' => e = .returned (.int .i64 154) ∧ w' = w := by
  obtain ⟨g, c, hv, hi, t2, ⟨s1, s2, s3, s4, s5, s6⟩, D⟩ := flip_pre h hn hp
  have D := hid D
  clear h hp hv
  generalize p.bs.length = m at *
  generalize B.ps.length = n at *
  have hii : (i : Int) < (n : Int) := by omega
  have hx0 : ¬ (x : Int) < 0 := by omega
  have hx1 : ¬ (m : Int) ≤ (x : Int) := by omega
  have hxm : (x : Int) < (m : Int) := by omega
  by_cases h1 : y < 1
  · clear hy
    go_enter Try.func25, Try.ntmps25
    go_wp2_with (first | (go_at_call 49; refine D.out.mono ?_; rintro e w' ⟨rfl, rfl⟩))
    go_ret
    exact ⟨rfl, rfl⟩
  · by_cases h2 : 255 < y
    · clear hy
      go_enter Try.func25, Try.ntmps25
      go_wp2_with (first | (go_at_call 49; refine D.out.mono ?_; rintro e w' ⟨rfl, rfl⟩))
      go_ret
      exact ⟨rfl, rfl⟩
    · obtain ⟨h3, h4⟩ : p.u ≠ 0 ∧ p.u ≠ x + 1 := by omega
      clear hy
      generalize p.u = u at *
      have e1 : (u != 0) = true := by simpa using h3
      have e2 : (u != ((x : Int) + 1)) = true := by simpa using h4
      go_enter Try.func25, Try.ntmps25
      go_wp2_with (first | (go_at_call 49; refine D.out.mono ?_; rintro e w' ⟨rfl, rfl⟩))
      go_ret
      exact ⟨rfl, rfl⟩
end Go.Proofs.Ytpfpamkbahgkpaa

import Derived.Test.YtphcfkfdkaphbaaTDesk
import Derived.Deep.RegionHeld3
import Derived.Deep.DeepCutAuto
import Derived.Deep.QuietTactic
import Derived.BigQuiet
namespace Go.Proofs.Ytphcfkfdkaphbaa
open Go.RowKit
set_option linter.unusedVariables false

/-- Which of n things. -/
def amN (i : Int) (n : Nat) : Nat := if i.tmod n < 0 then (i.tmod n + n).toNat else (i.tmod n).toNat
theorem amN_lt (i : Int) {n : Nat} (h1 : 1 ≤ n) : amN i n < n := by
  have hlt : i.tmod n < n := Int.tmod_lt_of_pos _ (by omega)
  unfold amN
  split <;> omega
theorem among_is {w : World} (i : Int) (n : Nat) (h1 : 1 ≤ n) (h2 : n ≤ 4611686018427387904) : Calls Try.prog 15 #[.int .i64 i, .int .i64 (n : Int)] w fun e w' => e = .returned (.int .i64 (amN i n : Nat)) ∧ w' = w := by
  have hlt : i.tmod n < n := Int.tmod_lt_of_pos _ (by omega)
  have hgt : -(n : Int) < i.tmod n := by
    have := Int.lt_tmod_of_pos i (b := (n : Int)) (by omega)
    omega
  by_cases h0 : i.tmod n < 0
  · have hw : wrap64 (i.tmod n + n) = i.tmod n + n := by unfold wrap64; omega
    go_enter Try.func15, Try.ntmps15
    go_wp2
    go_ret
    exact ⟨by unfold amN; rw [if_pos h0, Int.toNat_of_nonneg (by omega)]; rfl, rfl⟩
  · go_enter Try.func15, Try.ntmps15
    go_wp2
    go_ret
    exact ⟨by unfold amN; rw [if_neg (by omega), Int.toNat_of_nonneg (by omega)]; rfl, rfl⟩

theorem DeskI.drop {D N i : Nat} {c : Comp} {cs : List Comp} {w : World} (h : DeskI D N i (c :: cs) w) : DeskI D N i cs w := by
  obtain ⟨va, vb, vm, T, M, h1, h2, h3⟩ := h
  exact ⟨va, vb, vm, T, M, h1, h2, h3.mid⟩
theorem hd_reads {D k N ra ca rb cb : Nat} {vm : Value} {T : List Tq} {M : List Mk} {t : Tq} {X Z : List Comp} {w : World} (h : T[k]? = some t) (hN : T.length = N) (hA : All (X ++ (hdL D (.slice (some ⟨ra, 0, none⟩) N ca) (.slice (some ⟨rb, 0, none⟩) N cb) vm (pA T) (pB T) M ++ Z)) w) : DRead w D N k ra ca rb cb t.P t.R := by
  have hD : w.heap[D]? = some (.cells [.slice (some ⟨ra, 0, none⟩) N ca, .slice (some ⟨rb, 0, none⟩) N cb, vm].toArray 34 (0, 0)) := hA.blk (by simp [hdL])
  have hRA : w.ownsRow 0 24 1 (.slice (some ⟨ra, 0, none⟩) N ca) (pA T).length (pA T) := (hA.mem (c := ownC 24 (.slice (some ⟨ra, 0, none⟩) N ca) (pA T)) (by simp [hdL])).2.1
  have hRB : w.ownsRow 0 27 1 (.slice (some ⟨rb, 0, none⟩) N cb) (pB T).length (pB T) := (hA.mem (c := ownC 27 (.slice (some ⟨rb, 0, none⟩) N cb) (pB T)) (by simp [hdL])).2.1
  obtain ⟨_, e1, pa, _⟩ := owns_at hRA (k := k) (u := .pointer (some ⟨t.P, 0, none⟩)) (by simp [pA, h])
  obtain ⟨_, e2, pb, _⟩ := owns_at hRB (k := k) (u := .pointer (some ⟨t.R, 0, none⟩)) (by simp [pB, h])
  cases e1
  cases e2
  exact ⟨by rw [cell_at hD]; rfl, by rw [cell_at hD]; rfl, pa, pb⟩
end Go.Proofs.Ytphcfkfdkaphbaa

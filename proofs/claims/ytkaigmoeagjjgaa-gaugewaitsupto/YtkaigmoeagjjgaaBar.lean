import Derived.Test.YtkaigmoeagjjgaaSrt
import Derived.Laws.MakeOwn
import Derived.Deep.QuietTactic
import Derived.BigQuiet
import Derived.Deep.DeepCutAuto
import Derived.Deep.RegionHeld3
namespace Go.Proofs.Ytkaigmoeagjjgaa
open Go.RowKit
set_option linter.unusedVariables false

/-- how many edges are not above -/
def nb (es : List Int) (x : Int) : Nat := es.countP (fun e => decide (e ≤ x))
theorem nb_le (es : List Int) (x : Int) : nb es x ≤ es.length := List.countP_le_length
theorem nb_split {es : List Int} (h : es.Pairwise (· < ·)) (x : Int) : nb es x = es.countP (fun e => decide (e < x)) + (if es.contains x then 1 else 0) := by
  induction es with
  | nil => rfl
  | cons a t ih =>
    have ih := ih h.of_cons
    unfold nb at ih ⊢
    rw [List.countP_cons, List.countP_cons, ih, List.contains_cons]
    by_cases c : a = x
    · subst c
      have hz : t.contains a = false := by
        rw [Bool.eq_false_iff]
        intro hc
        have := List.rel_of_pairwise_cons h (List.contains_iff_mem.1 hc)
        omega
      rw [hz]
      simp
    · have hne : (x == a) = false := by simpa using (fun e : x = a => c e.symm)
      rw [hne, Bool.false_or]
      by_cases d : a < x
      · simp [d, Int.le_of_lt d]; omega
      · have : ¬ a ≤ x := by omega
        simp [d, this]

theorem barOf_any {w : World} {v : Value} {es : List Int} {x : Int} (h : IntsAt w v es) (hr : es.Pairwise (· < ·)) (hn : es.length ≤ 4096) : Calls Try.prog 38 #[v, .int .i64 x] w fun e w' => e = .returned (.int .i64 (nb es x : Nat)) ∧ ∃ q, w' = w.drewN q := by
  obtain ⟨ao, c, rfl⟩ := h.form
  have ck : Calls Try.prog 48 #[.slice ao es.length c, .int .i64 x] w fun e w' => e = .returned (.tuple #[.int .i64 (es.countP (fun e => decide (e < x)) : Nat), .bool (es.contains x)]) ∧ ∃ q, w' = w.drewN q := by
    by_cases h0 : es.length = 0
    · have : es = [] := List.eq_nil_of_length_eq_zero h0
      subst this
      refine (Any.slices_BinarySearch_int_empty Try.lays25 ao c x w).mono ?_
      rintro e w' ⟨rfl, rfl⟩
      exact ⟨rfl, 0, rfl⟩
    · obtain ⟨x0, hx0⟩ : ∃ y, es[0]? = some y := ⟨_, List.getElem?_eq_getElem (by omega)⟩
      obtain ⟨b, off, rfl, hb, _⟩ := h.at hx0
      have hs : (es.take es.length).Pairwise (· ≤ ·) := by rw [List.take_length]; exact hr.imp Int.le_of_lt
      have hc : ∀ j, j < es.length → w.cell? ⟨b, off + j, none⟩ = some (.int .i64 (es.getD j 0)) := fun j hj => by
        have hj' : es[j]? = some (es.getD j 0) := by simp [List.getD, List.getElem?_eq_getElem hj]
        obtain ⟨b', off', e, _, hc⟩ := h.at hj'
        simp only [Option.some.injEq, Addr.mk.injEq, and_true] at e
        obtain ⟨rfl, rfl⟩ := e
        exact hc
      have := Any.slices_BinarySearch_int Try.lays25 b off es.length c es x w (Nat.le_refl _) (by omega) hc hs
      rw [List.take_length] at this
      exact this
  have hsp := hid (nb_split hr x)
  have hle := List.countP_le_length (p := fun e => decide (e < x)) (l := es)
  generalize es.countP (fun e => decide (e < x)) = N at ck hsp hle
  have HL := hid hle
  clear h hr hle
  by_cases hcn : es.contains x = true
  · rw [hcn] at ck
    rw [hcn] at hsp
    have e : nb es x = N + 1 := hsp.out
    rw [e]
    have HN : N ≤ 4096 := by have := HL.out; omega
    clear hsp hcn e HL
    go_enter Try.func38, Try.ntmps38
    go_wp2_with fail
    refine ck.mono ?_
    rintro e w1 ⟨rfl, q, rfl⟩
    go_wp2
    go_ret
    exact ⟨by simp, q, rfl⟩
  · rw [Bool.not_eq_true] at hcn
    rw [hcn] at ck
    rw [hcn] at hsp
    have e : nb es x = N := hsp.out
    rw [e]
    clear hsp hcn e HL
    go_enter Try.func38, Try.ntmps38
    go_wp2_with fail
    refine ck.mono ?_
    rintro e w1 ⟨rfl, q, rfl⟩
    go_wp2
    go_ret
    exact ⟨rfl, q, rfl⟩

/-- the counts -/
def barsL (l es : List Int) : List Int := (List.range (es.length + 1)).map fun i => (l.countP (fun x => decide (nb es x = i)) : Int)
theorem barsL_len (l es : List Int) : (barsL l es).length = es.length + 1 := by simp [barsL]
theorem barsL_nil (es : List Int) : barsL [] es = List.replicate (es.length + 1) 0 := by
  unfold barsL
  apply List.ext_getElem
  · simp
  · intro i h1 h2; simp
theorem barsL_at (l es : List Int) {i : Nat} (h : i < es.length + 1) : (barsL l es)[i]? = some (l.countP (fun x => decide (nb es x = i)) : Int) := by
  unfold barsL
  rw [List.getElem?_map, List.getElem?_range h]; rfl
theorem barsL_snoc (l es : List Int) (x : Int) : barsL (l ++ [x]) es = (barsL l es).set (nb es x) ((l.countP (fun y => decide (nb es y = nb es x)) : Int) + 1) := by
  apply List.ext_getElem?
  intro i
  by_cases h : i < es.length + 1
  · rw [barsL_at _ _ h, List.getElem?_set, barsL_at _ _ h, barsL_len]
    by_cases c : nb es x = i
    · subst c
      rw [if_pos rfl, if_pos h, List.countP_append]
      simp
    · rw [if_neg c, List.countP_append]
      simp [c]
  · rw [List.getElem?_eq_none (by rw [barsL_len]; omega), List.getElem?_eq_none (by rw [List.length_set, barsL_len]; omega)]

theorem made_ints (z : Value) (hz : z.cells = #[z]) (n : Nat) : madeCells z.cells (n * 1) = (List.replicate n z).toArray := by
  rw [hz, Nat.mul_one]
  apply Array.ext
  · simp [size_madeCells]
  · intro i h1 h2
    simp [madeCells, Nat.mod_one]
theorem Try.info3' : (Try.prog.info? 3).map (fun i => (i.zero, i.size, i.bytes)) = some (some (.int .i64 0), 1, 8) := by kernel_rfl
/-- make([]int, n). -/
theorem make_ints {w : World} (n : Nat) (hn : n ≤ 8192) : (Instr.makeSlice 22 (.int .i64 n) (.int .i64 n)).run Try.prog w = .ok (.slice (some ⟨w.heap.size, 0, none⟩) n n) (w.alloc (.cells (List.replicate n (.int .i64 0)).toArray 3)) := by
  obtain ⟨i0, hi, hz0, hz1, hz2⟩ := info_parts Try.info3'
  have h := run_make (P := Try.prog) w 22 3 i0 (.int .i64 0) Try.underlying22 hi hz0 .i64 .i64 n n (by omega) (by omega) (by rw [hz2]; omega) (by omega)
  rw [hz1, Int.toNat_natCast, made_ints (.int .i64 0) rfl] at h
  exact h

theorem Bars_many {w : World} {a b : Option Addr} {n m c d : Nat} (h : 4096 < n ∨ 4096 < m) : Calls Try.prog 17 #[.slice a n c, .slice b m d] w fun e w' => e = .returned (.tuple #[.slice none 0 0, .int .i64 220]) ∧ w' = w := by
  by_cases h1 : 4096 < n
  · clear h
    go_enter Try.func17, Try.ntmps17
    go_wp2
    go_ret2
    exact ⟨rfl, rfl⟩
  · have h2 : 4096 < m := by omega
    clear h
    go_enter Try.func17, Try.ntmps17
    go_wp2
    go_ret2
    exact ⟨rfl, rfl⟩
end Go.Proofs.Ytkaigmoeagjjgaa

import Derived.Test.YtmpbdncgilahkaaPRef
import Derived.Test.YtmpbdncgilahkaaInts
import Derived.Test.YtmpbdncgilahkaaShown
import Derived.BigQuiet
namespace Go.Proofs.Ytmpbdncgilahkaa
open Go.RowKit
set_option linter.unusedVariables false

def fillL (xs : List Int) (j : Nat) : List Int := xs ++ (List.replicate j (-77) ++ List.replicate (4 - j) 0)
theorem fillL_len (xs : List Int) {j : Nat} (h : j ≤ 4) : (fillL xs j).length = xs.length + 4 := by simp [fillL]; omega
theorem fillL_set (xs : List Int) {j : Nat} (h : j < 4) : (ints (fillL xs j)).set (xs.length + j) (.int .i64 (-77)) = ints (fillL xs (j + 1)) := by
  have e : ∀ (t : List Value) (i : Nat), (List.map (Value.int .i64) xs ++ t).set (xs.length + i) (.int .i64 (-77)) = List.map (Value.int .i64) xs ++ t.set i (.int .i64 (-77)) := fun t i => by
    rw [List.set_append, if_neg (by simp)]
    simp
  obtain rfl | rfl | rfl | rfl : j = 0 ∨ j = 1 ∨ j = 2 ∨ j = 3 := by omega
  all_goals
    simp only [fillL, ints, List.map_append]
    rw [e]
    simp [List.replicate]

/-- Behind the fill: the copy, and four numbers behind it. -/
theorem fill4 (xs : List Int) : fillL xs 4 = xs ++ [-77, -77, -77, -77] := by simp [fillL, List.replicate]

/-- What Point tells of a list, whatever n is. -/
def ptk (n : Int) (xs : List Int) : Int := if fl n ∧ (xs.length : Int) = n then pnt n xs else 0
def pte (n : Int) (xs : List Int) : Int := if fl n ∧ (xs.length : Int) = n then 0 else 40

theorem Point_all {w : World} {n : Int} {b off cap : Nat} {xs : List Int} (hc : ∀ j u, (ints xs)[j]? = some u → w.cell? ⟨b, off + j, none⟩ = some u) :
    Calls Try.prog 12 #[.int .i64 n, .slice (some ⟨b, off, none⟩) xs.length cap] w fun e w' => ∃ k z, Hid (ptk n xs = k) ∧ Hid (pte n xs = z) ∧ e = .returned (.tuple #[.int .i64 k, .int .i64 z]) ∧ Below w.heap.size w w' := by
  by_cases h : fl n = true ∧ (xs.length : Int) = n
  · obtain ⟨h1, rfl⟩ := h
    refine (Point_ok h1 rfl (fun j hj => hc j _ (by simp [List.getElem?_eq_getElem hj, List.getD]))).mono ?_
    rintro e w' ⟨rfl, hB⟩
    exact ⟨_, _, hid (if_pos ⟨h1, rfl⟩), hid (if_pos ⟨h1, rfl⟩), rfl, hB⟩
  · refine (Point_bad (by cases hf : fl n; exact .inl rfl; exact .inr (fun e => h ⟨hf, e⟩))).mono ?_
    rintro e w' ⟨rfl, rfl⟩
    exact ⟨_, _, hid (if_neg h), hid (if_neg h), rfl, Below.refl _ _⟩

theorem PRef_all {w : World} {n : Int} {v : Value} {xs : List Int} (hx : IntsAt w v xs) :
    Calls Try.prog 13 #[.int .i64 n, v] w fun e w' => ∃ k z, Hid (ptk n xs = k) ∧ Hid (pte n xs = z) ∧ e = .returned (.tuple #[.int .i64 k, .int .i64 z]) ∧ ∃ q, w' = w.drewN q := by
  obtain ⟨ao, cap, rfl, hcap, hcase⟩ := hx
  by_cases h : fl n = true ∧ (xs.length : Int) = n
  · obtain ⟨h1, rfl⟩ := h
    have h3 : 3 ≤ xs.length := by rcases fl_cases h1 with h | h | h <;> omega
    rcases hcase with ⟨rfl, _⟩ | ⟨b, off, rfl, hb, hc⟩
    · simp at h3
    refine (PRef_ok h1 rfl (fun j hj => hc j _ (by simp [List.getElem?_eq_getElem hj, List.getD]))).mono ?_
    rintro e w' ⟨rfl, q, hq⟩
    exact ⟨_, _, hid (if_pos ⟨h1, rfl⟩), hid (if_pos ⟨h1, rfl⟩), rfl, q, hq⟩
  · refine (PRef_bad (by cases hf : fl n; exact .inl rfl; exact .inr (fun e => h ⟨hf, e⟩))).mono ?_
    rintro e w' ⟨rfl, rfl⟩
    exact ⟨_, _, hid (if_neg h), hid (if_neg h), rfl, 0, rfl⟩

theorem drewN_two (w : World) (a b : Nat) : (w.drewN a).drewN b = w.drewN (a + b) := by
  simp [World.drewN, Nat.add_assoc]

set_option maxHeartbeats 800000 in
set_option maxRecDepth 1000000 in
theorem num_fill {w : World} {n view : Int} {v : Value} {xs : List Int} (hx : IntsAt w v xs) (hl : xs.length * 8 ≤ 140737488351232) :
    Calls Try.prog 4 #[.int .i64 n, .int .i64 view, v] w fun e w' => e = .returned (.bool true) ∧ Below w.heap.size w w' := by
  obtain ⟨ao, cap, rfl, hcap, _⟩ := id hx
  have X := hid hx
  clear hx
  go_enter Try.func4, Try.ntmps4
  go_wp2_with fail
  refine shown_any.mono ?_
  rintro e w1 ⟨rfl, B1⟩
  have hmk := make_ints (w := w1) (xs.length + 4) (by omega)
  have hhm := heap_alloc_new w1 (.cells (List.replicate (xs.length + 4) (.int .i64 0)).toArray 3)
  have BM := B1.trans ((ba w1 (.cells (List.replicate (xs.length + 4) (.int .i64 0)).toArray 3)).mono B1.size)
  obtain ⟨wm, hwm⟩ : ∃ wm, wm = w1.alloc (.cells (List.replicate (xs.length + 4) (.int .i64 0)).toArray 3) := ⟨_, rfl⟩
  rw [← hwm] at hmk hhm BM
  obtain ⟨wz, hcp, hgz, hfz⟩ := copy_ints (w1 := wm) w1.heap.size (xs.length + 4) (xs.length + 4) xs ao cap _ (X.out.later BM) hhm (by omega) (by simp)
  have hgz : wz.heap[w1.heap.size]? = some (.cells (ints (fillL xs 0)).toArray 3 (0, 0)) := by
    rw [hgz]; simp [fillL, ints, List.drop_replicate, Nat.add_sub_cancel_left]
  have BZ : Below w.heap.size w wz := ⟨hfz.os.trans BM.os, hfz.tape.trans BM.tape, hfz.output.trans BM.output, Nat.le_trans BM.size hfz.size, fun k hk => (hfz.block k (Nat.lt_of_lt_of_le hk BM.size) (by have := B1.size; simp; omega)).trans (BM.block k hk)⟩
  rw [show (((xs.length + 4 : Nat) : Int)) = (xs.length : Int) + 4 from rfl] at hmk
  have HG := hid hgz
  have BZ := hid BZ
  have hg1 := B1.size
  generalize hgg : w1.heap.size = g at *
  clear B1 hhm BM hfz hgz hwm
  have hgg := hid hgg
  have hg1 := hid hg1
  obtain ⟨len, hlen⟩ : ∃ len, Hid (xs.length = len) := ⟨_, hid rfl⟩
  rw [hlen.out] at hmk hcp hcap hl ⊢
  go_wp2
  go_loopw [9] (fun iv wr => ∃ j : Nat, j ≤ 4 ∧ iv = .int .i64 ((len : Int) + j) ∧ Hid (wr.heap[g]? = some (.cells (ints (fillL xs j)).toArray 3 (0, 0))) ∧ Hid (Below w.heap.size w wr))
    (fun iv _ => match iv with | .int _ i => ((len : Int) + 4 - i).toNat | _ => 0)
  case atStart => exact ⟨0, by omega, by simp, HG, BZ⟩
  case round =>
    obtain ⟨j, hj, rfl, HR, BR⟩ := hrel
    clear HG BZ hmk hcp
    by_cases hj4 : j = 4
    · subst hj4
      rw [fill4] at HR
      have hle : (len : Int) ≤ (len : Int) + 4 := by omega
      go_wp2_with fail
      have HC : Hid (∀ i x, (xs ++ [-77, -77, -77, -77])[i]? = some x → wr.cell? ⟨g, i, none⟩ = some (.int .i64 x)) := hid fun i x hx => by
        rw [cell_at HR.out, List.getElem?_toArray, List.getElem?_map, hx]; rfl
      rw [← hlen.out]
      refine (Point_all (xs := xs) (fun j u hu => ?_)).mono ?_
      · obtain ⟨hj, e⟩ := List.getElem?_eq_some_iff.1 hu
        rw [List.length_map] at hj
        rw [Nat.zero_add, HC.out j xs[j] (by rw [List.getElem?_append_left hj, List.getElem?_eq_getElem hj])]
        simpa using e
      rintro e w3 ⟨k, z, K1, Z1, rfl, B3⟩
      have hgr := (Array.getElem?_eq_some_iff.1 HR.out).1
      have HC3 : Hid (∀ i x, (xs ++ [-77, -77, -77, -77])[i]? = some x → w3.cell? ⟨g, i, none⟩ = some (.int .i64 x)) := hid fun i x hx => (B3.cell (p := ⟨g, i, none⟩) hgr).trans (HC.out i x hx)
      have B4 := hid (BR.out.trans (B3.mono BR.out.size))
      have X3 := hid (X.out.later B4.out)
      clear HC HR BR B3 hgr X
      rw [hlen.out]
      have X3' := X3.out
      rw [hlen.out] at X3'
      go_wp2_with fail
      refine (PRef_all (xs := xs) X3').mono ?_
      rintro e w4 ⟨k', z', K2, Z2, rfl, q, hw4⟩
      obtain rfl : k = k' := K1.out.symm.trans K2.out
      obtain rfl : z = z' := Z1.out.symm.trans Z2.out
      have HC4 : Hid (∀ i x, (xs ++ [-77, -77, -77, -77])[i]? = some x → w4.cell? ⟨g, i, none⟩ = some (.int .i64 x)) := hid fun i x hx => by rw [hw4]; exact HC3.out i x hx
      have B5 := hid (show Below w.heap.size w w4 by rw [hw4]; exact below_drewN B4.out q)
      have X4 : Hid (∀ i x, xs[i]? = some x → ∃ b off, ao = some ⟨b, off, none⟩ ∧ w4.cell? ⟨b, off + i, none⟩ = some (.int .i64 x)) := hid fun i x hx => by
        obtain ⟨ao', cap', e, _, ⟨rfl, _⟩ | ⟨b, off, e2, _, hc⟩⟩ := X3.out
        · simp at hx
        · simp only [Value.slice.injEq] at e
          exact ⟨b, off, by rw [e.1, e2], by rw [hw4]; exact hc i _ (by rw [List.getElem?_map, hx]; rfl)⟩
      clear HC3 B4 X3 hw4 K1 K2 Z1 Z2 X3'
      go_wp2
      go_loopw [14, 15] (fun bv iv wr => ∃ i q : Nat, i ≤ len + 4 ∧ bv = .bool true ∧ iv = .int .i64 i ∧ wr = w4.drewN q)
        (fun _ iv _ => match iv with | .int _ i => ((len : Int) + 4 - i).toNat | _ => 0)
      case atStart => exact ⟨0, 0, by omega, rfl, rfl, rfl⟩
      case round =>
        obtain ⟨i, q, hi, rfl, rfl, hwr⟩ := hrel
        by_cases hil : i < len
        · obtain ⟨x, hx⟩ : ∃ x, xs[i]? = some x := ⟨_, List.getElem?_eq_getElem (by have := hlen.out; omega)⟩
          obtain ⟨b, off, hao, cx⟩ := X4.out i x hx
          have cg := HC4.out i x (by rw [List.getElem?_append_left (by have := hlen.out; omega)]; exact hx)
          subst hao
          have cx : wr.cell? ⟨b, off + i, none⟩ = some (.int .i64 x) := by rw [hwr]; exact cx
          have cg : wr.cell? ⟨g, i, none⟩ = some (.int .i64 x) := by rw [hwr]; exact cg
          have hi1 : (i : Int) < len := by omega
          have hi2 : (i : Int) < (len : Int) + 4 := by omega
          have wi : IntKind.i64.wrap (i : Int) = i := by rw [IntKind.wrap_i64]; omega
          have HW := hid hwr
          clear hx hwr
          go_wp2_with fail
          go_quiet (fail)
          go_wp2
          go_roundw
          case rel => exact ⟨i + 1, _, by omega, rfl, by go_num, by rw [HW.out, drewN_two]⟩
          case measure => simp; omega
        · by_cases hi4 : i = len + 4
          · have hi2 : ¬ (i : Int) < (len : Int) + 4 := by omega
            have HW := hid hwr
            clear hwr
            go_wp2_with fail
            refine (Faults_any _).mono ?_
            rintro e w5 ⟨rfl, rfl⟩
            go_wp2_with fail
            refine (Faults_ref _).mono ?_
            rintro e w5 ⟨rfl, rfl⟩
            go_wp2_with fail
            refine (Majority_any _).mono ?_
            rintro e w5 ⟨rfl, rfl⟩
            go_wp2_with fail
            refine (Majority_ref _).mono ?_
            rintro e w5 ⟨rfl, rfl⟩
            go_wp2_with fail
            refine (Primary_any _ _).mono ?_
            rintro e w5 ⟨rfl, rfl⟩
            go_wp2_with fail
            refine (Primary_ref _ _).mono ?_
            rintro e w5 ⟨rfl, rfl⟩
            go_wp2
            go_ret
            exact ⟨rfl, by rw [HW.out]; exact below_drewN B5.out q⟩
          · obtain ⟨x, hx⟩ : ∃ x, (xs ++ [-77, -77, -77, -77])[i]? = some x := ⟨_, List.getElem?_eq_getElem (by have := hlen.out; simp; omega)⟩
            have cg := HC4.out i x hx
            have e77 : x = -77 := by
              rw [List.getElem?_append_right (by have := hlen.out; omega)] at hx
              have := List.mem_of_getElem? hx
              simpa using this
            subst e77
            have cg : wr.cell? ⟨g, i, none⟩ = some (.int .i64 (-77)) := by rw [hwr]; exact cg
            have hi1 : decide ((i : Int) < len) = false := decide_eq_false (by omega)
            have hi5 : decide (i < len) = false := decide_eq_false (by omega)
            have hi3 : (len : Int) ≤ i := by omega
            have hi2 : (i : Int) < (len : Int) + 4 := by omega
            have wi : IntKind.i64.wrap (i : Int) = i := by rw [IntKind.wrap_i64]; omega
            have HW := hid hwr
            clear hx hwr
            go_wp2_with fail
            go_quiet (fail)
            go_wp2
            go_roundw
            case rel => exact ⟨i + 1, _, by omega, rfl, by go_num, by rw [HW.out, drewN_two]⟩
            case measure => simp; omega
    · have hj' : (j : Int) < 4 := by omega
      have c0 : wr.cell? ⟨g, len + j, none⟩ = some (.int .i64 0) := by
        rw [cell_at HR.out, ← hlen.out, List.getElem?_toArray]
        simp only [fillL, ints, List.map_append]
        rw [List.getElem?_append_right (by simp), List.getElem?_append_right (by simp)]
        simp only [List.length_map, Nat.add_sub_cancel_left, List.length_replicate, Nat.sub_self, List.map_replicate]
        rw [List.getElem?_replicate, if_pos (by omega)]
      have f0 := free_at HR.out (len + j)
      go_wp2
      go_roundw
      case rel =>
        refine ⟨j + 1, by omega, by go_num, ?_, hid (BR.out.setCell (p := ⟨g, len + j, none⟩) hg1.out _)⟩
        have := heap_setCell_same (j := len + j) HR.out (.int .i64 (-77))
        rw [List.setIfInBounds_toArray, ← hlen.out, fillL_set xs (by omega), hlen.out] at this
        exact hid this
      case measure => simp; omega
end Go.Proofs.Ytmpbdncgilahkaa

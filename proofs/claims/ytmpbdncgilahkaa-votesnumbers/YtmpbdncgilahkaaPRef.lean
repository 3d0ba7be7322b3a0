import Derived.Test.YtmpbdncgilahkaaPure
namespace Go.Proofs.Ytmpbdncgilahkaa
open Go.RowKit
set_option linter.unusedVariables false

theorem below_drewN {n : Nat} {w w' : World} (h : Below n w w') (q : Nat) : Below n w (w'.drewN q) := ⟨h.os, h.tape, h.output, h.size, h.block⟩

theorem PRef_bad {w : World} {n : Int} {ao : Option Addr} {len cap : Nat} (h : fl n = false ∨ (len : Int) ≠ n) : Calls Try.prog 13 #[.int .i64 n, .slice ao len cap] w fun e w' => e = .returned (.tuple #[.int .i64 0, .int .i64 40]) ∧ w' = w := by
  cases hf : fl n with
  | false =>
    clear h
    go_enter Try.func13, Try.ntmps13
    go_wp2_with fail
    refine (fleet_ref n).mono ?_
    rintro e w1 ⟨rfl, rfl⟩
    rw [hf]
    go_wp2
    go_ret2
    exact ⟨rfl, rfl⟩
  | true =>
    have hn : ¬ (len : Int) = n := by rcases h with h | h; (rw [hf] at h; cases h); exact h
    have hn' : ((len : Int) != n) = true := by simp [hn]
    clear h
    go_enter Try.func13, Try.ntmps13
    go_wp2_with fail
    refine (fleet_ref n).mono ?_
    rintro e w1 ⟨rfl, rfl⟩
    rw [hf]
    go_wp2
    go_ret2
    exact ⟨rfl, rfl⟩

theorem ge_take {xs : List Int} {y x : Int} {j : Nat} (h : xs[j]? = some x) : ge y (xs.take (j + 1)) = ge y (xs.take j) + (if y ≤ x then 1 else 0) := by
  rw [List.take_add_one, h]
  simp [ge, List.countP_append, List.countP_cons]
theorem bst_take {m : Nat} {xs : List Int} {x : Int} {i : Nat} (h : xs[i]? = some x) : bst m xs (xs.take (i + 1)) = stepP m xs (bst m xs (xs.take i)) x := by
  rw [List.take_add_one, h]
  exact bst_snoc m xs _ x
theorem ge_le (y : Int) (xs : List Int) : ge y xs ≤ xs.length := List.countP_le_length

set_option maxRecDepth 1000000 in
theorem PRef_ok {w : World} {n b off cap : Nat} {xs : List Int} (hf : fl n = true) (hn : xs.length = n) (hc : ∀ j, j < xs.length → w.cell? ⟨b, off + j, none⟩ = some (.int .i64 (xs.getD j 0))) :
    Calls Try.prog 13 #[.int .i64 n, .slice (some ⟨b, off, none⟩) n cap] w fun e w' => e = .returned (.tuple #[.int .i64 (pnt n xs), .int .i64 0]) ∧ ∃ q, w' = w.drewN q := by
  have C : Hid (∀ j x, xs[j]? = some x → w.cell? ⟨b, off + j, none⟩ = some (.int .i64 x)) := hid fun j x hx => by
    obtain ⟨hj, e⟩ := List.getElem?_eq_some_iff.1 hx
    rw [hc j hj, List.getD, hx]; rfl
  have L := hid hn
  have E := hid (bst_pnt hf hn)
  have h7 : n ≤ 7 ∧ 3 ≤ n := by rcases fl_cases hf with h | h | h <;> omega
  obtain ⟨m, hm, hM⟩ : ∃ m : Nat, Hid ((maj n).toNat = m) ∧ maj n = m := ⟨_, hid rfl, by have := (maj_nat hf).2.2; omega⟩
  rw [hm.out] at E
  clear hc hn
  go_enter Try.func13, Try.ntmps13
  go_wp2_with fail
  refine (fleet_ref _).mono ?_
  rintro e w1 ⟨rfl, rfl⟩
  rw [hf]
  have F := hid hf
  clear hf
  go_wp2
  go_loopw [7, 8, 9, 10, 11] (fun bv fv iv _ _ wr => ∃ i q : Nat, i ≤ n ∧ iv = .int .i64 i ∧ bv = .int .i64 (bst m xs (xs.take i)).1 ∧ fv = .bool (bst m xs (xs.take i)).2 ∧ wr = w1.drewN q)
    (fun _ _ iv _ _ _ => match iv with | .int _ i => (n - i).toNat | _ => 0)
  case atStart => exact ⟨0, 0, by omega, rfl, rfl, rfl, rfl⟩
  case round =>
    obtain ⟨i, q, hi, rfl, rfl, rfl, rfl⟩ := hrel
    by_cases hin : i = n
    · have e1 : bst m xs (xs.take i) = bst m xs xs := by rw [List.take_of_length_le (by have := L.out; omega)]
      rw [e1, E.out]
      have hin' : ¬ (i : Int) < n := by omega
      clear e1
      subst hin
      go_wp2
      go_ret2
      exact ⟨rfl, q, rfl⟩
    · have hin' : (i : Int) < n := by omega
      obtain ⟨x, hx⟩ : ∃ x, xs[i]? = some x := ⟨_, List.getElem?_eq_getElem (by have := L.out; omega)⟩
      have cx := C.out i x hx
      have S1 := hid (bst_take (m := m) hx)
      clear hx
      generalize bst m xs (xs.take i) = a at S1 ⊢
      obtain ⟨a1, a2⟩ := a
      go_wp2
      go_loopw [10, 11] (fun mv jv wr => ∃ j q : Nat, j ≤ n ∧ jv = .int .i64 j ∧ mv = .int .i64 (ge x (xs.take j)) ∧ wr = w1.drewN q)
        (fun _ jv _ => match jv with | .int _ j => (n - j).toNat | _ => 0)
      case atStart => exact ⟨0, q, by omega, rfl, rfl, rfl⟩
      case round =>
        obtain ⟨j, q, hj, rfl, rfl, rfl⟩ := hrel
        by_cases hjn : j = n
        · have hjn' : ¬ (j : Int) < n := by omega
          have e2 : xs.take j = xs := List.take_of_length_le (by have := L.out; omega)
          rw [e2]
          clear e2
          generalize hc : ge x xs = c
          have hc' := hid hc
          clear hc
          go_wp2_with fail
          refine (Majority_ref _).mono ?_
          rintro e w4 ⟨rfl, rfl⟩
          rw [hM]
          by_cases h1 : (m : Int) ≤ c
          · cases a2 with
            | false =>
              have S2 := S1.out
              rw [stepP, if_pos ⟨by have := hc'.out; omega, .inl rfl⟩] at S2
              have S3 := hid S2
              clear S2
              go_wp2
              go_roundw
              case rel => exact ⟨i + 1, q, by omega, by go_num, by rw [S3.out], by rw [S3.out], rfl⟩
              case measure => simp; omega
            | true =>
              by_cases h2 : a1 < x
              · have S2 := S1.out
                rw [stepP, if_pos ⟨by have := hc'.out; omega, .inr h2⟩] at S2
                have S3 := hid S2
                clear S2
                go_wp2
                go_roundw
                case rel => exact ⟨i + 1, q, by omega, by go_num, by rw [S3.out], by rw [S3.out], rfl⟩
                case measure => simp; omega
              · have S2 := S1.out
                rw [stepP, if_neg (by simp; omega)] at S2
                have S3 := hid S2
                clear S2
                go_wp2
                go_roundw
                case rel => exact ⟨i + 1, q, by omega, by go_num, by rw [S3.out], by rw [S3.out], rfl⟩
                case measure => simp; omega
          · have S2 := S1.out
            rw [stepP, if_neg (by have := hc'.out; omega)] at S2
            have S3 := hid S2
            clear S2
            go_wp2
            go_roundw
            case rel => exact ⟨i + 1, q, by omega, by go_num, by rw [S3.out], by rw [S3.out], rfl⟩
            case measure => simp; omega
        · have hjn' : (j : Int) < n := by omega
          obtain ⟨y, hy⟩ : ∃ y, xs[j]? = some y := ⟨_, List.getElem?_eq_getElem (by have := L.out; omega)⟩
          have cy := C.out j y hy
          have T1 := hid (ge_take (y := x) hy)
          have hb : ge x (xs.take j) ≤ 7 := Nat.le_trans (ge_le _ _) (by rw [List.length_take]; omega)
          generalize ge x (xs.take j) = c at T1 hb ⊢
          clear hy
          by_cases h1 : x ≤ y
          · have T2 := T1.out
            rw [if_pos h1] at T2
            have T3 := hid T2
            clear T2
            go_wp2
            go_region
            go_wp2
            go_roundw
            case rel => exact ⟨j + 1, q + 1, by omega, by go_num, by rw [T3.out]; go_num, rfl⟩
            case measure => simp; omega
          · have T2 := T1.out
            rw [if_neg h1] at T2
            have T3 := hid T2
            clear T2
            go_wp2
            go_region
            go_wp2
            go_roundw
            case rel => exact ⟨j + 1, q + 1, by omega, by go_num, by rw [T3.out]; rfl, rfl⟩
            case measure => simp; omega
end Go.Proofs.Ytmpbdncgilahkaa

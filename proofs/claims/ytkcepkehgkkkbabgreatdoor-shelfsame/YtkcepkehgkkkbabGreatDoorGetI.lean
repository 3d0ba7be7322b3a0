import Derived.Test.YtkcepkehgkkkbabGreatDoorJ37
namespace Go.Proofs.YtkcepkehgkkkbabGreatDoor
open Go.RowKit
set_option linter.unusedVariables false

set_option maxHeartbeats 1600000 in
set_option maxRecDepth 1000000 in
theorem getItems32 {b : Nat} {D : Option Nat} {rv : Value} {r : Rst} {cs : List Comp} {w : World} (h : All (rdC b D rv r :: cs) w) (hp : r.size ≤ 140737488355328) :
    Calls Tryz.prog 49 #[.pointer (some ⟨b, 0, none⟩), .int .i64 32] w fun e w' => ∃ so sc rv', e = .returned (.slice so (((r.num 32).items (r.numV 32).toNat).1).length sc) ∧ All (ownC 9 (.slice so (((r.num 32).items (r.numV 32).toNat).1).length sc) (txtV ((r.num 32).items (r.numV 32).toNat).1) :: rdC b D rv' ((r.num 32).items (r.numV 32).toNat).2 :: cs) w' := by
  have HH := hid h
  have HP := hid hp
  obtain ⟨N, hN⟩ : ∃ N : Nat, Hid (r.numV 32 = (N : Int) ∧ N ≤ 32) := ⟨(r.numV 32).toNat, hid (by
    have h1 := numR_val r.rs 32 13
    have h2 := numR_le r.rs 32 13 (by omega)
    unfold Rst.numV
    omega)⟩
  have eN : (r.numV 32).toNat = N := by rw [hN.out.1]; simp
  rw [eN]
  clear h hp eN
  go_enter Tryz.func49, Tryz.ntmps49
  go_wp2_with fail
  refine (numRd HH.out (by have := HP.out; unfold Rst.size at this; exact this) 32).mono ?_
  rw [hN.out.1]
  rintro e w1 ⟨rfl, rv1, A1⟩
  have A1 := hid A1
  have hN8 := hN.out.2
  clear HH
  obtain ⟨i0, hi, hz0, hz1, hz2⟩ := info_parts Tryz.info9
  go_wp2
  go_loopw [5, 9] (fun vv iv wr => ∃ (k : Nat) (so : Option Addr) (sc : Nat) (rv' : Value), vv = .slice so k sc ∧ iv = .int .i64 (k : Int) ∧ k ≤ N ∧ Hid (All (ownC 9 (.slice so k sc) (txtV ((r.num 32).items k).1) :: rdC b D rv' ((r.num 32).items k).2 :: cs) wr)) (fun vv iv _ => N - (intOf iv).toNat)
  case atStart => exact ⟨0, none, 0, rv1, rfl, rfl, Nat.zero_le _, hid A1.out.addNil⟩
  case round =>
    obtain ⟨k, so, sc, rv', rfl, rfl, hk, AR⟩ := hrel
    clear A1
    by_cases hlt : k < N
    · have el : decide ((k : Int) < (N : Int)) = true := by simpa using hlt
      have HB : Hid (((r.num 32).items k).2.place + ((r.num 32).items k).2.rs.length ≤ 140737488355328) := hid (by
        have h1 := items_size (r.num 32) k
        have h2 := num_size r 32
        have h3 := HP.out
        unfold Rst.size at h1 h2 h3
        omega)
      go_wp2_with fail
      refine (textRd AR.out.swap HB.out 64).mono ?_
      rintro e w2 ⟨rfl, rv2, A2⟩
      have A3 := hid (A2.swap.alloc (.cells #[.string (((r.num 32).items k).2.txtV 64)] 9))
      have hrow : (w2.alloc (.cells #[.string (((r.num 32).items k).2.txtV 64)] 9)).ownsRow 0 9 1 (.slice so k sc) k (txtV ((r.num 32).items k).1) := by
        have h1 : (w2.alloc (.cells #[.string (((r.num 32).items k).2.txtV 64)] 9)).ownsRow 0 9 1 (.slice so k sc) (txtV ((r.num 32).items k).1).length (txtV ((r.num 32).items k).1) := A3.out.1.2.1
        rw [txtV_length, items_len] at h1
        exact h1
      have hnews : ∀ j u, [.string (((r.num 32).items k).2.txtV 64)][j]? = some u → (w2.alloc (.cells #[.string (((r.num 32).items k).2.txtV 64)] 9)).cell? ((⟨w2.heap.size, 0, none⟩ : Addr).add j) = some u := by
        intro j u hu
        rw [Addr.add_lit, cell_at (heap_alloc_new w2 _)]
        cases j with
        | zero => simpa using hu
        | succ j => simp at hu
      have hone : ∀ u ∈ [Value.string (((r.num 32).items k).2.txtV 64)], u.oneCell' = true := by
        intro u hu
        simp only [List.mem_singleton] at hu
        subst hu
        rfl
      clear AR A2
      go_wp2_with (at_builtin; refine wpList_append_own_at _ rfl (.tmp 11) (.tmp 14) 57 rfl 0 9 i0 (.string (.mk #[])) 1 16 Tryz.und57 hi hz0 hz1 hz2 rfl (by decide) _ _ _ rfl hrow ⟨w2.heap.size, 0, none⟩ 1 1 [.string (((r.num 32).items k).2.txtV 64)] rfl rfl hnews hone (by unfold maxLen; omega) (by omega) (by simp) ?_)
      intro v' w3 hown hgr _ hat
      have A4 := A3.out.ownGrow (vs' := txtV ((r.num 32).items (k + 1)).1) (base := 0) (v' := v') (by
        rw [txtV_length, items_len]
        simpa [Rst.items, txtV] using hown) hgr (by simpa using hat)
      obtain ⟨so', sc', rfl⟩ := owns_form hown
      have A4 := hid A4
      clear hown hgr hat A3 hrow hnews hone
      go_wp2
      go_roundw
      case rel => exact ⟨k + 1, so', sc', rv2, rfl, by go_num, by omega, A4⟩
      case measure => simp [intOf]; omega
    · have el : decide ((k : Int) < (N : Int)) = false := by simp; omega
      obtain rfl : k = N := by omega
      go_wp2
      go_ret
      refine ⟨so, sc, rv', by rw [items_len]; rfl, ?_⟩
      rw [items_len]
      exact AR.out

end Go.Proofs.YtkcepkehgkkkbabGreatDoor

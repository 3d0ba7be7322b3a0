import Derived.Test.YtkcepkehgkkkbabDoorSortS
import Derived.Test.YtkcepkehgkkkbabDoorSame
namespace Go.Proofs.YtkcepkehgkkkbabDoor
open Go.RowKit
set_option linter.unusedVariables false

/-- The names of the queues that are there, in the order of their slots. -/
def nms (qs : List Qv) : List ByteArray := (qs.map (·.nm)).filter fun t => !t.toList.isEmpty
theorem nms_take {qs : List Qv} {k : Nat} {q : Qv} (hq : qs[k]? = some q) : nms (qs.take (k + 1)) = nms (qs.take k) ++ if q.nm.toList.isEmpty then [] else [q.nm] := by
  obtain ⟨hk, rfl⟩ := List.getElem?_eq_some_iff.1 hq
  rw [List.take_succ_eq_append_getElem hk, nms, nms, List.map_append, List.filter_append]
  simp only [List.map_cons, List.map_nil]
  cases h : qs[k].nm.toList.isEmpty <;> simp [h]
theorem nms_len (qs : List Qv) : (nms qs).length ≤ qs.length := by
  have := List.length_filter_le (fun t : ByteArray => !t.toList.isEmpty) (qs.map (·.nm))
  rw [List.length_map] at this
  exact this
/-- And in their own order. -/
def nmsS (qs : List Qv) : List ByteArray := ((rawT (nms qs)).mergeSort fun x y => decide (x ≤ y)).map strB
theorem nmsS_len (qs : List Qv) : (nmsS qs).length = (nms qs).length := by simp [nmsS, rawT_length]

set_option maxHeartbeats 1600000 in
set_option maxRecDepth 1000000 in
theorem names_any {P : Nat} {qs : List Qv} {cs : List Comp} {w : World} (h : All (blkC P (flat qs) 56 :: cs) w) (h8 : qs.length = 8) :
    Calls Tryd.prog 54 #[.pointer (some ⟨P, 0, none⟩)] w fun e w' => ∃ so sc, e = .returned (.slice so (nmsS qs).length sc) ∧ All (ownC 9 (.slice so (nmsS qs).length sc) (txtV (nmsS qs)) :: blkC P (flat qs) 56 :: cs) w' := by
  have A0 := hid (h.addNil (e := 9))
  obtain ⟨i0, hi, hz0, hz1, hz2⟩ := info_parts Tryd.info9
  clear h
  go_enter Tryd.func54, Tryd.ntmps54
  go_wp2
  go_loopw [3, 5] (fun vv iv wr => ∃ (k : Nat) (so : Option Addr) (L sc : Nat), vv = .slice so L sc ∧ iv = .int .i64 (k : Int) ∧ k ≤ 8 ∧ Hid (L = (nms (qs.take k)).length ∧ L ≤ 8) ∧ Hid (All (ownC 9 (.slice so L sc) (txtV (nms (qs.take k))) :: blkC P (flat qs) 56 :: cs) wr)) (fun vv iv _ => 8 - (intOf iv).toNat)
  case atStart => exact ⟨0, none, 0, 0, rfl, rfl, by omega, hid ⟨by simp [nms], by omega⟩, A0⟩
  case round =>
    obtain ⟨k, so, L, sc, rfl, rfl, hk, HL, AR⟩ := hrel
    clear A0
    by_cases hlt : k < 8
    · obtain ⟨q, hq⟩ : ∃ q, qs[k]? = some q := ⟨_, List.getElem?_eq_getElem (by omega)⟩
      have el : decide ((k : Int) < 8) = true := by simp; omega
      have k1 : (0 : Int) ≤ (k : Int) := by omega
      have k2 : (k : Int) < 8 := by omega
      have k3 : ¬ (k : Int) < 0 := by omega
      have c0 := AR.out.q0 mem2 hq
      have HT := hid (nms_take hq)
      have HQ := hid hq
      clear hq
      go_wp2_with fail
      refine (isFree_any c0).mono ?_
      rintro e w1 ⟨rfl, hw⟩
      have A1 := hid (show All (ownC 9 (.slice so L sc) (txtV (nms (qs.take k))) :: blkC P (flat qs) 56 :: cs) w1 from by rw [hw]; exact AR.out)
      clear hw AR c0
      cases he : q.nm.toList.isEmpty with
      | true =>
        rw [he] at HT
        have A2 := hid (show All (ownC 9 (.slice so L sc) (txtV (nms (qs.take (k + 1)))) :: blkC P (flat qs) 56 :: cs) w1 from by rw [HT.out]; simpa using A1.out)
        have HL2 := hid (show L = (nms (qs.take (k + 1))).length ∧ L ≤ 8 from by rw [HT.out]; simpa using HL.out)
        clear A1 he HT
        go_wp2
        go_roundw
        case rel => exact ⟨k + 1, so, L, sc, rfl, by go_num, by omega, HL2, A2⟩
        case measure => simp [intOf]; omega
      | false =>
        rw [he] at HT
        have c0 := A1.out.q0 mem2 HQ.out
        have hrow : w1.ownsRow 0 9 1 (.slice so L sc) L (txtV (nms (qs.take k))) := by
          have h1 : w1.ownsRow 0 9 1 (.slice so L sc) (txtV (nms (qs.take k))).length (txtV (nms (qs.take k))) := A1.out.1.2.1
          rw [txtV_length, ← HL.out.1] at h1
          exact h1
        have hL8 := HL.out.2
        clear he
        go_wp2_with (at_builtin; refine wpList_append_own_at _ rfl (.tmp 15) (.tmp 23) 28 rfl 0 9 i0 (.string ⟨#[]⟩) 1 16 Tryd.und28 hi hz0 hz1 hz2 rfl (by decide) _ _ _ rfl (hrow.alloc _) ⟨w1.heap.size, 0, none⟩ 1 1 [.string q.nm] rfl rfl (cell_one_new _ _ _) (fun u hu => by simp at hu; subst hu; rfl) (by unfold maxLen; omega) (by omega) (by omega) ?_)
        intro v' w3 hown hgr _ hat
        have A4 := (A1.out.alloc (.cells #[.string q.nm] 9)).ownGrow (vs' := txtV (nms (qs.take (k + 1)))) (base := 0) (v' := v') (by
          rw [HT.out, txtV_length, List.length_append, ← HL.out.1]
          simpa [txtV] using hown) hgr (by simpa using hat)
        obtain ⟨so', sc', rfl⟩ := owns_form hown
        have A4 := hid A4
        have HL2 := hid (show L + 1 = (nms (qs.take (k + 1))).length ∧ L + 1 ≤ 8 from by
          have e1 : (nms (qs.take (k + 1))).length = L + 1 := by rw [HT.out, List.length_append, ← HL.out.1]; simp
          have e2 := nms_len (qs.take (k + 1))
          rw [List.length_take] at e2
          exact ⟨e1.symm, by omega⟩)
        clear hown hgr hat A1 hrow c0
        go_wp2
        go_roundw
        case rel => exact ⟨k + 1, so', L + 1, sc', rfl, by go_num, by omega, HL2, A4⟩
        case measure => simp [intOf]; omega
    · obtain rfl : k = 8 := by omega
      rw [List.take_of_length_le (by omega)] at HL AR
      have AS := hid (show All (ownC 9 (.slice so L sc) ((rawT (nms qs)).map Go.Proofs.encStr) :: blkC P (flat qs) 56 :: cs) wr from by rw [← txtV_enc]; exact AR.out)
      clear AR
      go_wp2_with fail
      refine (sort_own AS.out (by rw [rawT_length]; have := HL.out; omega)).mono ?_
      rintro e w2 ⟨rfl, A2⟩
      rw [txtV_ofB] at A2
      have A2 := hid A2
      clear AS
      have HLS := hid (show L = (nmsS qs).length by rw [nmsS_len]; exact HL.out.1)
      go_wp2
      go_ret
      refine ⟨so, sc, by rw [← HLS.out]; rfl, ?_⟩
      rw [← HLS.out]
      exact A2.out
end Go.Proofs.YtkcepkehgkkkbabDoor

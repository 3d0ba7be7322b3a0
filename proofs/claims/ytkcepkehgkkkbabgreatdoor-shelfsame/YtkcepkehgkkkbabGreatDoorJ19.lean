import Derived.Test.YtkcepkehgkkkbabGreatDoorJ18
import Derived.Test.YtkcepkehgkkkbabGreatDoorJ15
import Derived.Test.YtkcepkehgkkkbabGreatDoorJ16
import Derived.Test.YtkcepkehgkkkbabGreatDoorJ11
namespace Go.Proofs.YtkcepkehgkkkbabGreatDoor
open Go.RowKit
set_option linter.unusedVariables false

/-- The names of the queues that are there, in the order of their slots. -/
def nms (qs : List Qv) : List ByteArray := (qs.map (·.nm)).filter fun t => !t.toList.isEmpty
theorem nms_take {qs : List Qv} {k : Nat} {q : Qv} (hq : qs[k]? = some q) : nms (qs.take (k + 1)) = nms (qs.take k) ++ if q.nm.toList.isEmpty then [] else [q.nm] := by
  obtain ⟨hk, rfl⟩ := List.getElem?_eq_some_iff.1 hq
  rw [List.take_succ_eq_append_getElem hk, nms, nms, List.map_append, List.filter_append]
  simp only [List.map_cons, List.map_nil]
  cases h : qs[k].nm.toList.isEmpty <;> simp [h]
theorem nms_len (qs : List Qv) : (nms qs).length ≤ qs.length := by
  have := List.length_filter_le (fun t : ByteArray => !t.toList.isEmpty) (qs.map (·.nm))
  rw [List.length_map] at this
  exact this
/-- And in their own order. -/
def nmsS (qs : List Qv) : List ByteArray := ((rawT (nms qs)).mergeSort fun x y => decide (x ≤ y)).map strB
theorem nmsS_len (qs : List Qv) : (nmsS qs).length = (nms qs).length := by simp [nmsS, rawT_length]

set_option maxHeartbeats 1600000 in
set_option maxRecDepth 1000000 in
theorem names_any {P : Nat} {qs : List Qv} {cs : List Comp} {w : World} (h : All (blkC P (flat qs) 74 :: cs) w) (h8 : qs.length = 8) :
    Calls Tryz.prog 38 #[.pointer (some ⟨P, 0, none⟩)] w fun e w' => ∃ so sc, e = .returned (.slice so (nmsS qs).length sc) ∧ All (ownC 9 (.slice so (nmsS qs).length sc) (txtV (nmsS qs)) :: blkC P (flat qs) 74 :: cs) w' := by
  have A0 := hid (h.addNil (e := 9))
  obtain ⟨i0, hi, hz0, hz1, hz2⟩ := info_parts Tryz.info9
  clear h
  go_enter Tryz.func38, Tryz.ntmps38
  go_wp2
  go_loopw [3, 5] (fun vv iv wr => ∃ (k : Nat) (so : Option Addr) (L sc : Nat), vv = .slice so L sc ∧ iv = .int .i64 (k : Int) ∧ k ≤ 8 ∧ Hid (L = (nms (qs.take k)).length ∧ L ≤ 8) ∧ Hid (All (ownC 9 (.slice so L sc) (txtV (nms (qs.take k))) :: blkC P (flat qs) 74 :: cs) wr)) (fun vv iv _ => 8 - (intOf iv).toNat)
  case atStart => exact ⟨0, none, 0, 0, rfl, rfl, by omega, hid ⟨by simp [nms], by omega⟩, A0⟩
  case round =>
    obtain ⟨k, so, L, sc, rfl, rfl, hk, HL, AR⟩ := hrel
    clear A0
    by_cases hlt : k < 8
    · obtain ⟨q, hq⟩ : ∃ q, qs[k]? = some q := ⟨_, List.getElem?_eq_getElem (by omega)⟩
      have el : decide ((k : Int) < 8) = true := by simp; omega
      have k1 : (0 : Int) ≤ (k : Int) := by omega
      have k2 : (k : Int) < 8 := by omega
      have k3 : ¬ (k : Int) < 0 := by omega
      have c0 := AR.out.q0 mem2 hq
      have HT := hid (nms_take hq)
      have HQ := hid hq
      clear hq
      go_wp2_with fail
      refine (isFree_any c0).mono ?_
      rintro e w1 ⟨rfl, hw⟩
      have A1 := hid (show All (ownC 9 (.slice so L sc) (txtV (nms (qs.take k))) :: blkC P (flat qs) 74 :: cs) w1 from by rw [hw]; exact AR.out)
      clear hw AR c0
      cases he : q.nm.toList.isEmpty with
      | true =>
        rw [he] at HT
        have A2 := hid (show All (ownC 9 (.slice so L sc) (txtV (nms (qs.take (k + 1)))) :: blkC P (flat qs) 74 :: cs) w1 from by rw [HT.out]; simpa using A1.out)
        have HL2 := hid (show L = (nms (qs.take (k + 1))).length ∧ L ≤ 8 from by rw [HT.out]; simpa using HL.out)
        clear A1 he HT
        go_wp2
        go_roundw
        case rel => exact ⟨k + 1, so, L, sc, rfl, by go_num, by omega, HL2, A2⟩
        case measure => simp [intOf]; omega
      | false =>
        rw [he] at HT
        have c0 := A1.out.q0 mem2 HQ.out
        have hrow : w1.ownsRow 0 9 1 (.slice so L sc) L (txtV (nms (qs.take k))) := by
          have h1 : w1.ownsRow 0 9 1 (.slice so L sc) (txtV (nms (qs.take k))).length (txtV (nms (qs.take k))) := A1.out.1.2.1
          rw [txtV_length, ← HL.out.1] at h1
          exact h1
        have hL8 := HL.out.2
        clear he
        go_wp2_with (at_builtin; refine wpList_append_own_at _ rfl (.tmp 15) (.tmp 23) 57 rfl 0 9 i0 (.string ⟨#[]⟩) 1 16 Tryz.und57 hi hz0 hz1 hz2 rfl (by decide) _ _ _ rfl (hrow.alloc _) ⟨w1.heap.size, 0, none⟩ 1 1 [.string q.nm] rfl rfl (cell_one_new _ _ _) (fun u hu => by simp at hu; subst hu; rfl) (by unfold maxLen; omega) (by omega) (by omega) ?_)
        intro v' w3 hown hgr _ hat
        have A4 := (A1.out.alloc (.cells #[.string q.nm] 9)).ownGrow (vs' := txtV (nms (qs.take (k + 1)))) (base := 0) (v' := v') (by
          rw [HT.out, txtV_length, List.length_append, ← HL.out.1]
          simpa [txtV] using hown) hgr (by simpa using hat)
        obtain ⟨so', sc', rfl⟩ := owns_form hown
        have A4 := hid A4
        have HL2 := hid (show L + 1 = (nms (qs.take (k + 1))).length ∧ L + 1 ≤ 8 from by
          have e1 : (nms (qs.take (k + 1))).length = L + 1 := by rw [HT.out, List.length_append, ← HL.out.1]; simp
          have e2 := nms_len (qs.take (k + 1))
          rw [List.length_take] at e2
          exact ⟨e1.symm, by omega⟩)
        clear hown hgr hat A1 hrow c0
        go_wp2
        go_roundw
        case rel => exact ⟨k + 1, so', L + 1, sc', rfl, by go_num, by omega, HL2, A4⟩
        case measure => simp [intOf]; omega
    · obtain rfl : k = 8 := by omega
      rw [List.take_of_length_le (by omega)] at HL AR
      have AS := hid (show All (ownC 9 (.slice so L sc) ((rawT (nms qs)).map Go.Proofs.encStr) :: blkC P (flat qs) 74 :: cs) wr from by rw [← txtV_enc]; exact AR.out)
      clear AR
      go_wp2_with fail
      refine (sort_own AS.out (by rw [rawT_length]; have := HL.out; omega)).mono ?_
      rintro e w2 ⟨rfl, A2⟩
      rw [txtV_ofB] at A2
      have A2 := hid A2
      clear AS
      have HLS := hid (show L = (nmsS qs).length by rw [nmsS_len]; exact HL.out.1)
      go_wp2
      go_ret
      refine ⟨so, sc, by rw [← HLS.out]; rfl, ?_⟩
      rw [← HLS.out]
      exact A2.out
end Go.Proofs.YtkcepkehgkkkbabGreatDoor

namespace Go.Proofs.YtkcepkehgkkkbabGreatDoor
open Go.RowKit
set_option linter.unusedVariables false

set_option maxHeartbeats 1600000 in
set_option maxRecDepth 1000000 in
theorem list_any {P : Nat} {qs : List Qv} {cs : List Comp} {w : World} (h : All (blkC P (flat qs) 74 :: cs) w) (h8 : qs.length = 8) (at' k : Int) (nm tx : ByteArray) (n m : Int) :
    Calls Tryz.prog 115 #[.pointer (some ⟨P, 0, none⟩), .int .i64 at', opV k nm tx n m] w fun e w' => ∃ so sc, e = .returned (.tuple #[resV 0 0 (.slice so (nmsS qs).length sc), .int .i64 (-1)]) ∧ All (blkC P (flat qs) 74 :: ownC 9 (.slice so (nmsS qs).length sc) (txtV (nmsS qs)) :: cs) w' := by
  have hsz : (w.alloc (opB k nm tx n m)).heap.size = w.heap.size + 1 := by simp
  have H1 := hid (((h.alloc (opB k nm tx n m)).addBlk [.int .i64 0, .int .i64 0, .slice none 0 0] 59))
  rw [hsz] at H1
  clear hsz
  clear h
  go_enter Tryz.func115, Tryz.ntmps115
  go_wp2_with fail
  refine (names_any H1.out.swap h8).mono ?_
  rintro e w1 ⟨so, sc, rfl, A1⟩
  generalize hN : (nmsS qs).length = N at A1 ⊢
  have H2 := hid (A1.perm (ds := blkC (w.heap.size + 1) [.int .i64 0, .int .i64 0, .slice none 0 0] 59 :: blkC P (flat qs) 74 :: ownC 9 (.slice so N sc) (txtV (nmsS qs)) :: cs) ((List.perm_middle (l₁ := [ownC 9 (.slice so N sc) (txtV (nmsS qs)), blkC P (flat qs) 74])).trans (List.Perm.cons _ (List.Perm.swap _ _ _))))
  have HN := hid hN
  clear A1 H1 hN
  have r0 := H2.out.r0
  have r1 := H2.out.r1
  have r2 := H2.out.r2
  have g0 := H2.out.rf 0
  have g1 := H2.out.rf 1
  have g2 := H2.out.rf 2
  have AE := hid (H2.out.setR (.int .i64 0) (.int .i64 0) (.slice so N sc))
  clear H2 
  go_wp2
  generalize (((w1.setCell ⟨w.heap.size + 1, 0, none⟩ (.int .i64 0)).setCell ⟨w.heap.size + 1, 1, none⟩ (.int .i64 0)).setCell ⟨w.heap.size + 1, 2, none⟩ (.slice so N sc)) = we at AE ⊢
  clear r0 r1 r2
  have r0 := AE.out.r0
  have r1 := AE.out.r1
  have r2 := AE.out.r2
  refine bodyPost_ret (v := .tuple #[resV 0 0 (.slice so N sc), .int .i64 (-1)]) (by rw [results_cell_tmp (fn := Tryz.f115) (p := 6) (u := 7) (ty := 59) rfl]; go_simp) rfl ?_
  exact ⟨so, sc, by rw [HN.out], by rw [HN.out]; exact AE.out.tail⟩


set_option maxHeartbeats 1600000 in
set_option maxRecDepth 1000000 in
theorem read_none {P b nb : Nat} {qs : List Qv} {cs : List Comp} {w : World} {i : Nat} {nm0 : ByteArray} {first : Int} {iv : Value} {gv : Value} {items : List ByteArray} (h : All (blkC P (flat qs) 74 :: ownC 9 iv (txtV items) :: cs) w) (h8 : qs.length = 8) (hq : qs[i]? = some ⟨nm0, first, iv, gv⟩) (hl : items.length ≤ 32) (hf0 : 0 ≤ first) (hf1 : first + items.length ≤ 1099511627776) (k : Int) (nm tx : ByteArray) (n m : Int) (hn0 : 0 ≤ n) (hn1 : n ≤ 1099511627776) (hge : first + items.length ≤ max n first) :
    Calls Tryz.prog 113 #[.pointer (some ⟨P, 0, none⟩), .int .i64 i, opV k nm tx n m] w fun e w' => e = .returned (.tuple #[resV 0 n (.slice none 0 0), .int .i64 (-1)]) ∧ All (blkC P (flat qs) 74 :: ownC 9 iv (txtV items) :: cs) w' := by
  have hi8 : i < 8 := by have := (List.getElem?_eq_some_iff.1 hq).1; omega
  obtain ⟨ao, c, eo⟩ := owns_form (h.2.2.1.2.1 : w.ownsRow 0 9 1 iv (txtV items).length (txtV items))
  rw [txtV_length] at eo
  subst eo
  have hsz : (w.alloc (opB k nm tx n m)).heap.size = w.heap.size + 1 := by simp
  have H1 := hid (((h.alloc (opB k nm tx n m)).addBlk [.int .i64 0, .int .i64 0, .slice none 0 0] 59))
  rw [hsz] at H1
  clear hsz
  have HO := heap_alloc_new w (opB k nm tx n m)
  have o3 : ((w.alloc (opB k nm tx n m)).alloc (.cells [Value.int .i64 0, .int .i64 0, .slice none 0 0].toArray 59)).cell? ⟨w.heap.size, 3, none⟩ = some (.int .i64 n) := cell_under (ba _ _) (by simp) (by rw [cell_at HO]; rfl)
  have o4 : ((w.alloc (opB k nm tx n m)).alloc (.cells [Value.int .i64 0, .int .i64 0, .slice none 0 0].toArray 59)).cell? ⟨w.heap.size, 4, none⟩ = some (.int .i64 m) := cell_under (ba _ _) (by simp) (by rw [cell_at HO]; rfl)
  have HQ := hid hq
  have i1 : (0 : Int) ≤ (i : Int) := by omega
  have i2 : (i : Int) < 8 := by omega
  have i3 : ¬ (i : Int) < 0 := by omega
  obtain ⟨idx, hidx⟩ : ∃ idx : Int, Hid (max n first = idx) := ⟨_, hid rfl⟩
  have hge2 : first + (items.length : Int) ≤ idx := by rw [← hidx.out]; exact hge
  clear hge
  clear h hq HO
  generalize hW : (w.alloc (opB k nm tx n m)).alloc (.cells [Value.int .i64 0, .int .i64 0, .slice none 0 0].toArray 59) = w1 at H1 o3 o4
  have s1 : w1.cell? ⟨P, i * 4 + 1, none⟩ = some (.int .i64 first) := H1.out.q1 mem2 HQ.out
  have s1d : w1.drew.cell? ⟨P, i * 4 + 1, none⟩ = some (.int .i64 first) := s1
  have o3d : w1.drew.cell? ⟨w.heap.size, 3, none⟩ = some (.int .i64 n) := o3
  go_enter Tryz.func113, Tryz.ntmps113
  go_wp2
  go_region
  have H2 := hid H1.out.drew
  have p3 := hid (show w1.drew.cell? ⟨w.heap.size, 3, none⟩ = some (.int .i64 n) from o3)
  have p4 := hid (show w1.drew.cell? ⟨w.heap.size, 4, none⟩ = some (.int .i64 m) from o4)
  clear H1 o3 o4 s1 s1d o3d hW
  generalize w1.drew = w2 at H2 p3 p4 ⊢
  rw [hidx.out]
  go_wp2_with fail
  refine (end_q (i := i) (P := P) (H2.out.q1 mem2 HQ.out) (H2.out.q2 mem2 HQ.out) hf0 (by simp only; omega)).mono ?_
  rintro e w3 ⟨rfl, nq, hw⟩
  have H3 := hid (show All (blkC (w.heap.size + 1) [.int .i64 0, .int .i64 0, .slice none 0 0] 59 :: blkC P (flat qs) 74 :: ownC 9 (.slice ao items.length c) (txtV items) :: cs) w3 from by rw [hw]; exact H2.out.drewN nq)
  have o3 : w3.cell? ⟨w.heap.size, 3, none⟩ = some (.int .i64 n) := by rw [hw]; exact p3.out
  have o4 : w3.cell? ⟨w.heap.size, 4, none⟩ = some (.int .i64 m) := by rw [hw]; exact p4.out
  simp only
  clear hw H2 p3 p4
  have eg : decide (first + (items.length : Int) ≤ idx) = true := by simpa using hge2
  have r0 := H3.out.r0
  have r1 := H3.out.r1
  have r2 := H3.out.r2
  have g0 := H3.out.rf 0
  have g1 := H3.out.rf 1
  have g2 := H3.out.rf 2
  have AE := hid (H3.out.setR (.int .i64 0) (.int .i64 n) (.slice none 0 0))
  clear H3 
  go_wp2
  generalize (((w3.setCell ⟨w.heap.size + 1, 0, none⟩ (.int .i64 0)).setCell ⟨w.heap.size + 1, 1, none⟩ (.int .i64 n)).setCell ⟨w.heap.size + 1, 2, none⟩ (.slice none 0 0)) = we at AE ⊢
  clear r0 r1 r2
  have r0 := AE.out.r0
  have r1 := AE.out.r1
  have r2 := AE.out.r2
  refine bodyPost_ret (v := .tuple #[resV 0 n (.slice none 0 0), .int .i64 (-1)]) (by rw [results_cell_tmp (fn := Tryz.f113) (p := 6) (u := 7) (ty := 59) rfl]; go_simp) rfl ?_
  exact ⟨rfl, AE.out.tail⟩

set_option maxHeartbeats 3200000 in
set_option maxRecDepth 1000000 in
theorem read_some {P b nb : Nat} {qs : List Qv} {cs : List Comp} {w : World} {i : Nat} {nm0 : ByteArray} {first : Int} {iv : Value} {gv : Value} {items : List ByteArray} (h : All (blkC P (flat qs) 74 :: ownC 9 iv (txtV items) :: cs) w) (h8 : qs.length = 8) (hq : qs[i]? = some ⟨nm0, first, iv, gv⟩) (hl : items.length ≤ 32) (hf0 : 0 ≤ first) (hf1 : first + items.length ≤ 1099511627776) (k : Int) (nm tx : ByteArray) (n m : Int) (hn0 : 0 ≤ n) (hn1 : n ≤ 1099511627776) (hm0 : 1 ≤ m) (hm1 : m ≤ 8) {d : Nat} (hd : max n first = first + (d : Int)) (hdl : d < items.length) :
    Calls Tryz.prog 113 #[.pointer (some ⟨P, 0, none⟩), .int .i64 i, opV k nm tx n m] w fun e w' => ∃ so sc, e = .returned (.tuple #[resV 0 (first + (d : Int)) (.slice so ((items.drop d).take m.toNat).length sc), .int .i64 (-1)]) ∧ All (blkC P (flat qs) 74 :: ownC 9 iv (txtV items) :: ownC 9 (.slice so ((items.drop d).take m.toNat).length sc) (txtV ((items.drop d).take m.toNat)) :: cs) w' := by
  have hi8 : i < 8 := by have := (List.getElem?_eq_some_iff.1 hq).1; omega
  obtain ⟨ao, c, eo⟩ := owns_form (h.2.2.1.2.1 : w.ownsRow 0 9 1 iv (txtV items).length (txtV items))
  rw [txtV_length] at eo
  subst eo
  have hsz : (w.alloc (opB k nm tx n m)).heap.size = w.heap.size + 1 := by simp
  have H1 := hid (((h.alloc (opB k nm tx n m)).addBlk [.int .i64 0, .int .i64 0, .slice none 0 0] 59))
  rw [hsz] at H1
  clear hsz
  have HO := heap_alloc_new w (opB k nm tx n m)
  have o3 : ((w.alloc (opB k nm tx n m)).alloc (.cells [Value.int .i64 0, .int .i64 0, .slice none 0 0].toArray 59)).cell? ⟨w.heap.size, 3, none⟩ = some (.int .i64 n) := cell_under (ba _ _) (by simp) (by rw [cell_at HO]; rfl)
  have o4 : ((w.alloc (opB k nm tx n m)).alloc (.cells [Value.int .i64 0, .int .i64 0, .slice none 0 0].toArray 59)).cell? ⟨w.heap.size, 4, none⟩ = some (.int .i64 m) := cell_under (ba _ _) (by simp) (by rw [cell_at HO]; rfl)
  have HQ := hid hq
  have i1 : (0 : Int) ≤ (i : Int) := by omega
  have i2 : (i : Int) < 8 := by omega
  have i3 : ¬ (i : Int) < 0 := by omega
  obtain ⟨idx, hidx⟩ : ∃ idx : Int, Hid (max n first = idx) := ⟨_, hid rfl⟩
  have HID := hid (show idx = first + (d : Int) from by rw [← hidx.out]; exact hd)
  clear hd
  clear h hq HO
  generalize hW : (w.alloc (opB k nm tx n m)).alloc (.cells [Value.int .i64 0, .int .i64 0, .slice none 0 0].toArray 59) = w1 at H1 o3 o4
  have s1 : w1.cell? ⟨P, i * 4 + 1, none⟩ = some (.int .i64 first) := H1.out.q1 mem2 HQ.out
  have s1d : w1.drew.cell? ⟨P, i * 4 + 1, none⟩ = some (.int .i64 first) := s1
  have o3d : w1.drew.cell? ⟨w.heap.size, 3, none⟩ = some (.int .i64 n) := o3
  go_enter Tryz.func113, Tryz.ntmps113
  go_wp2
  go_region
  have H2 := hid H1.out.drew
  have p3 := hid (show w1.drew.cell? ⟨w.heap.size, 3, none⟩ = some (.int .i64 n) from o3)
  have p4 := hid (show w1.drew.cell? ⟨w.heap.size, 4, none⟩ = some (.int .i64 m) from o4)
  clear H1 o3 o4 s1 s1d o3d hW
  generalize w1.drew = w2 at H2 p3 p4 ⊢
  rw [hidx.out]
  go_wp2_with fail
  refine (end_q (i := i) (P := P) (H2.out.q1 mem2 HQ.out) (H2.out.q2 mem2 HQ.out) hf0 (by simp only; omega)).mono ?_
  rintro e w3 ⟨rfl, nq, hw⟩
  have H3 := hid (show All (blkC (w.heap.size + 1) [.int .i64 0, .int .i64 0, .slice none 0 0] 59 :: blkC P (flat qs) 74 :: ownC 9 (.slice ao items.length c) (txtV items) :: cs) w3 from by rw [hw]; exact H2.out.drewN nq)
  have o3 : w3.cell? ⟨w.heap.size, 3, none⟩ = some (.int .i64 n) := by rw [hw]; exact p3.out
  have o4 : w3.cell? ⟨w.heap.size, 4, none⟩ = some (.int .i64 m) := by rw [hw]; exact p4.out
  simp only
  clear hw H2 p3 p4
  have eg : decide (first + (items.length : Int) ≤ idx) = false := by have := HID.out; simp; omega
  have hrow := (H3.out.2.2.2.2.1.2.1 : w3.ownsRow 0 9 1 (.slice ao items.length c) (txtV items).length (txtV items))
  have hlc := owns_len hrow
  rw [txtV_length] at hlc
  obtain ⟨g, ea, _, _⟩ := owns_at hrow (k := 0) (u := .string items[0]) (by simp)
  subst ea
  have s2 : w3.cell? ⟨P, i * 4 + 2, none⟩ = some (.slice (some ⟨g, 0, none⟩) items.length c) := H3.out.q2 mem2 HQ.out
  have s1 : w3.cell? ⟨P, i * 4 + 1, none⟩ = some (.int .i64 first) := H3.out.q1 mem2 HQ.out
  have s2d : w3.drew.cell? ⟨P, i * 4 + 2, none⟩ = some (.slice (some ⟨g, 0, none⟩) items.length c) := s2
  have s1d : w3.drew.cell? ⟨P, i * 4 + 1, none⟩ = some (.int .i64 first) := s1
  obtain ⟨L, hL⟩ : ∃ L, Hid (L = items.length - d) := ⟨_, hid rfl⟩
  obtain ⟨C, hC⟩ : ∃ C, Hid (C = c - d) := ⟨_, hid rfl⟩
  obtain ⟨kk, hkk⟩ : ∃ kk, Hid (kk = ((items.drop d).take m.toNat).length) := ⟨_, hid rfl⟩
  have hcut : ∀ W : World, (Instr.slice 57 (.slice (some ⟨g, 0, none⟩) items.length c) (some (.int .i64 (IntKind.i64.wrap (idx - first)))) none none).run Tryz.prog W = .ok (.slice (some ⟨g, d, none⟩) L C) W := by
    intro W
    have e1 : IntKind.i64.wrap (idx - first) = (d : Int) := by rw [HID.out]; simp [IntKind.wrap, IntKind.bits, IntKind.signed]; omega
    rw [e1, run_slice_l W 57 (some ⟨g, 0, none⟩) items.length c (by kernel_rfl) .i64 (d : Int) (by omega) (by omega)]
    have hs : (sizeOf (Tryz.prog.elem 57)).run Tryz.prog W = .ok 1 W := by kernel_rfl
    rw [hs, hL.out, hC.out]
    simp [sliced, Result.andThen, Addr.add_lit]
    omega
  have hkl : kk ≤ L ∧ min m (L : Int) = (kk : Int) := by
    rw [hkk.out, hL.out, List.length_take, List.length_drop]
    omega
  have hcut2 : ∀ W : World, (Instr.slice 57 (.slice (some ⟨g, d, none⟩) L C) none (some (.int .i64 (kk : Int))) none).run Tryz.prog W = .ok (.slice (some ⟨g, d, none⟩) kk C) W := by
    intro W
    have hC1 := hC.out
    have hL1 := hL.out
    rw [run_slice_h W 57 (some ⟨g, d, none⟩) L C (by kernel_rfl) .i64 (kk : Int) (by omega) (by omega)]
    have hs : (sizeOf (Tryz.prog.elem 57)).run Tryz.prog W = .ok 1 W := by kernel_rfl
    rw [hs]
    simp [sliced, Result.andThen, Addr.add_lit]
  have hmin := hkl.2
  have o4d : w3.drew.cell? ⟨w.heap.size, 4, none⟩ = some (.int .i64 m) := o4
  have H4 := hid H3.out.drew
  have TX := hid (show Txts w3.drew (.slice (some ⟨g, d, none⟩) kk C) ((items.drop d).take m.toNat) from by
    refine ⟨_, C, by rw [← hkk.out], by rw [← hkk.out]; have := hC.out; have := hL.out; have := hkl.1; omega, Or.inr ⟨g, d, rfl, ?_, fun j hj => ?_⟩⟩
    · exact H3.out.2.2.2.2.1.2.2 g (by simp [ownC, Value.ownBlock])
    · obtain ⟨g', ea', hc', _⟩ := owns_at hrow (k := d + j) (u := .string ((items.drop d).take m.toNat)[j]) (by
        have hj' : d + j < items.length := by rw [List.length_take, List.length_drop] at hj; omega
        simp [hj'])
      cases ea'
      exact hc')
  clear hrow hkl H3
  go_wp2
  go_region
  all_goals (
    clear s1 s2 s1d s2d o3 o4 hcut
    generalize w3.drew = w4 at H4 o4d TX ⊢
    go_wp2_with fail
    refine (tclone_any TX.out (by rw [← hkk.out]; have := hkk.out; rw [List.length_take, List.length_drop] at this; omega)).mono ?_
    rintro e w5 ⟨s', rfl, h5, B5⟩
    rw [← hkk.out] at h5
    obtain ⟨so, sc, hs5⟩ := owns_form h5
    subst hs5
    have A5 := hid ((H4.out.addOwn (l := txtV ((items.drop d).take m.toNat)) B5 (by rw [txtV_length, ← hkk.out]; exact h5)).swap)
    clear h5 B5 TX H4 hcut2 o4d
    have r0 := A5.out.r0
    have r1 := A5.out.r1
    have r2 := A5.out.r2
    have g0 := A5.out.rf 0
    have g1 := A5.out.rf 1
    have g2 := A5.out.rf 2
    have AE := hid (A5.out.setR (.int .i64 0) (.int .i64 idx) (.slice so kk sc))
    clear A5 
    go_wp2
    generalize (((w5.setCell ⟨w.heap.size + 1, 0, none⟩ (.int .i64 0)).setCell ⟨w.heap.size + 1, 1, none⟩ (.int .i64 idx)).setCell ⟨w.heap.size + 1, 2, none⟩ (.slice so kk sc)) = we at AE ⊢
    clear r0 r1 r2
    have r0 := AE.out.r0
    have r1 := AE.out.r1
    have r2 := AE.out.r2
    refine bodyPost_ret (v := .tuple #[resV 0 idx (.slice so kk sc), .int .i64 (-1)]) (by rw [results_cell_tmp (fn := Tryz.f113) (p := 6) (u := 7) (ty := 59) rfl]; go_simp) rfl ?_
    rw [← hkk.out, ← HID.out]
    refine ⟨so, sc, rfl, ?_⟩
    exact AE.out.tail.perm (List.Perm.trans (List.Perm.swap _ _ _) (List.Perm.cons _ (List.Perm.swap _ _ _))))
end Go.Proofs.YtkcepkehgkkkbabGreatDoor

namespace Go.Proofs.YtkcepkehgkkkbabGreatDoor
open Go.RowKit
open Go.Maps (Keyed)
set_option linter.unusedVariables false

set_option maxHeartbeats 3200000 in
set_option maxRecDepth 1000000 in
/-- A group that wasn't there takes the first item. -/
theorem take_first {P b nb : Nat} {qs : List Qv} {cs : List Comp} {w : World} {i : Nat} {nm0 : ByteArray} {first : Int} {iv : Value} {D : DataW Unit} {item : ByteArray} {items : List ByteArray} (h : All (blkC P (flat qs) 74 :: ownC 9 iv (txtV (item :: items)) :: mapC b nb D :: cs) w) (h8 : qs.length = 8) (hq : qs[i]? = some ⟨nm0, first, iv, .map (some b)⟩) (hl : items.length < 32) (hf0 : 0 ≤ first) (hf1 : first + items.length < 1099511627776) (k : Int) (nm tx : ByteArray) (n m : Int) (hs : tx.size ≤ maxLen) (hhas : Maps.has D (.string tx.data.toList) = false) (hlen : Maps.size D < 4) (hnb : nb < 1152921504606846976) :
    Calls Tryz.prog 112 #[.pointer (some ⟨P, 0, none⟩), .int .i64 i, opV k nm tx n m] w fun e w' => ∃ so, e = .returned (.tuple #[resV 0 first (.slice so 1 1), .int .i64 i]) ∧ All (blkC P (flat qs) 74 :: ownC 9 iv (txtV (item :: items)) :: mapC b (nb + 1) (D.put (.string tx.data.toList) (.lit (.int .i64 (first + 1)))) :: ownC 9 (.slice so 1 1) (txtV [item]) :: cs) w' := by
  have hi8 : i < 8 := by have := (List.getElem?_eq_some_iff.1 hq).1; omega
  have hrow : w.ownsRow 0 9 1 iv (txtV (item :: items)).length (txtV (item :: items)) := h.2.2.1.2.1
  obtain ⟨ao, c, eo⟩ := owns_form hrow
  rw [List.length_map, List.length_cons] at eo
  subst eo
  have hsz : (w.alloc (opB k nm tx n m)).heap.size = w.heap.size + 1 := by simp
  have H1 := hid (((h.alloc (opB k nm tx n m)).addBlk [.int .i64 0, .int .i64 0, .slice none 0 0] 59))
  rw [hsz] at H1
  have HO := heap_alloc_new w (opB k nm tx n m)
  have o2 := hid (show ((w.alloc (opB k nm tx n m)).alloc (.cells [Value.int .i64 0, .int .i64 0, .slice none 0 0].toArray 59)).cell? ⟨w.heap.size, 2, none⟩ = some (.string tx) from cell_under (ba _ _) (by simp) (by rw [cell_at HO]; rfl))
  have HQ := hid hq
  have i1 : (0 : Int) ≤ (i : Int) := by omega
  have i2 : (i : Int) < 8 := by omega
  have i3 : ¬ (i : Int) < 0 := by omega
  have hkey := WideMaps.keyOf_string_mk Tryz.underlying9 hs
  clear h hq hsz HO hrow
  generalize hW : (w.alloc (opB k nm tx n m)).alloc (.cells [Value.int .i64 0, .int .i64 0, .slice none 0 0].toArray 59) = w1 at H1 o2
  have c1 := H1.out.q1 (List.mem_cons_of_mem _ List.mem_cons_self) HQ.out
  have c2 := H1.out.q2 (List.mem_cons_of_mem _ List.mem_cons_self) HQ.out
  have c3 := H1.out.q3 (List.mem_cons_of_mem _ List.mem_cons_self) HQ.out
  have o3 := o2.out
  have hl1 := lookS (H1.out.drew.2.2.2.2.2.2.1.2.1) hkey
  rw [hhas] at hl1
  have c3d : w1.drew.cell? ⟨P, i * 4 + 3, none⟩ = some (.map (some b)) := c3
  have o3d : w1.drew.cell? ⟨w.heap.size, 2, none⟩ = some (.string tx) := o3
  go_enter Tryz.func112, Tryz.ntmps112
  go_wp2
  go_region
  have H2 := hid H1.out.drew
  have o4 := hid (show (w1.drew).cell? ⟨w.heap.size, 2, none⟩ = some (.string tx) from o2.out)
  clear H1 o2 o3 c1 c2 c3 hl1 hW c3d o3d
  generalize w1.drew = w2 at H2 o4 ⊢
  have c1 := H2.out.q1 mem2 HQ.out
  have c2 := H2.out.q2 mem2 HQ.out
  have c3 := H2.out.q3 mem2 HQ.out
  have hlm := (H2.out.2.2.2.2.2.2.1.2.1 : w2.ownsMap Tryz.prog 9 rE b nb D).len Tryz.und66
  have e4 : ((Maps.size D : Int) == 4) = false := by rw [beq_eq_false_iff_ne]; omega
  go_wp2_with fail
  refine (end_q (i := i) c1 c2 hf0 (by omega)).mono ?_
  rintro e w3 ⟨rfl, nq2, hw⟩
  have H3 := hid (show All _ w3 from by rw [hw]; exact H2.out.drewN nq2)
  have o5 := hid (show w3.cell? ⟨w.heap.size, 2, none⟩ = some (.string tx) from by rw [hw]; exact o4.out)
  clear hw H2 o4 c1 c2 c3 hlm
  have eE : (first == first + ((items.length + 1 : Nat) : Int)) = false := by rw [beq_eq_false_iff_ne]; omega
  have c3 := H3.out.q3 mem2 HQ.out
  have d3 : w3.drew.cell? ⟨P, i * 4 + 3, none⟩ = some (.map (some b)) := c3
  have o6 := o5.out
  have o7 : w3.drew.cell? ⟨w.heap.size, 2, none⟩ = some (.string tx) := o6
  have hwf : (Lit.int .i64 (first + 1)).wf = true := WalkArith.wf_i64 (by omega)
  obtain ⟨w4, hup, ho4, hg4⟩ := World.ownsMap.update (H3.out.drew.2.2.2.2.2.2.1.2.1 : w3.drew.ownsMap Tryz.prog 9 rE b nb D) lawS Tryz.und66 (by unfold maxLen; omega) (val := .int .i64 (first + 1)) hkey (plainElem_int Tryz.underlying3 hwf)
  have H4 := hid (((H3.out.drew).perm (ds := mapC b nb D :: blkC (w.heap.size + 1) [.int .i64 0, .int .i64 0, .slice none 0 0] 59 :: blkC P (flat qs) 74 :: ownC 9 (.slice ao (items.length + 1) c) (txtV (item :: items)) :: cs) (List.perm_middle (l₁ := [blkC (w.heap.size + 1) [.int .i64 0, .int .i64 0, .slice none 0 0] 59, blkC P (flat qs) 74, ownC 9 (.slice ao (items.length + 1) c) (txtV (item :: items))]))).mapTurn hg4 ho4)
  clear ho4 hg4 H3 o5
  go_wp2
  go_region
  clear c3 d3 o6 o7 hup
  have H5 := hid (H4.out.perm (ds := blkC (w.heap.size + 1) [.int .i64 0, .int .i64 0, .slice none 0 0] 59 :: blkC P (flat qs) 74 :: ownC 9 (.slice ao (items.length + 1) c) (txtV (item :: items)) :: mapC b (nb + 1) (D.put (.string tx.data.toList) (.lit (.int .i64 (first + 1)))) :: cs) (List.perm_middle (l₁ := [blkC (w.heap.size + 1) [.int .i64 0, .int .i64 0, .slice none 0 0] 59, blkC P (flat qs) 74, ownC 9 (.slice ao (items.length + 1) c) (txtV (item :: items))])).symm)
  clear H4
  have row := (H5.out.2.2.2.2.1.2.1 : w4.ownsRow 0 9 1 (.slice ao (items.length + 1) c) (txtV (item :: items)).length (txtV (item :: items)))
  obtain ⟨g, ea, hc0, _⟩ := owns_at row (k := 0) (u := .string item) rfl
  have hg := H5.out.2.2.2.2.1.2.2 g (by rw [ea]; simp [ownC, Value.ownBlock])
  have hP : P < w4.heap.size := (H5.out.mem mem2).2.2 P (by simp [blkC])
  have hR : w.heap.size + 1 < w4.heap.size := (H5.out.mem List.mem_cons_self).2.2 _ (by simp [blkC])
  subst ea
  have c1 : w4.drew.cell? ⟨P, i * 4 + 1, none⟩ = some (.int .i64 first) := H5.out.q1 mem2 HQ.out
  have c2 : w4.drew.cell? ⟨P, i * 4 + 2, none⟩ = some (.slice (some ⟨g, 0, none⟩) (items.length + 1) c) := H5.out.q2 mem2 HQ.out
  have hc0 : w4.drew.cell? ⟨g, 0, none⟩ = some (.string item) := hc0
  have r0 : w4.drew.cell? ⟨w.heap.size + 1, 0, none⟩ = some (.int .i64 0) := H5.out.r0
  have r1 : w4.drew.cell? ⟨w.heap.size + 1, 1, none⟩ = some (.int .i64 0) := H5.out.r1
  have r2 : w4.drew.cell? ⟨w.heap.size + 1, 2, none⟩ = some (.slice none 0 0) := H5.out.r2
  have g0 : w4.drew.frozen? ⟨w.heap.size + 1, 0, none⟩ = false := H5.out.rf 0
  have g1 : w4.drew.frozen? ⟨w.heap.size + 1, 1, none⟩ = false := H5.out.rf 1
  have g2 : w4.drew.frozen? ⟨w.heap.size + 1, 2, none⟩ = false := H5.out.rf 2
  clear row
  have R0 : w4.cell? ⟨w.heap.size + 1, 0, none⟩ = some (.int .i64 0) := r0
  have R1 : w4.cell? ⟨w.heap.size + 1, 1, none⟩ = some (.int .i64 0) := r1
  have R2 : w4.cell? ⟨w.heap.size + 1, 2, none⟩ = some (.slice none 0 0) := r2
  have G0 : w4.frozen? ⟨w.heap.size + 1, 0, none⟩ = false := g0
  have G1 : w4.frozen? ⟨w.heap.size + 1, 1, none⟩ = false := g1
  have G2 : w4.frozen? ⟨w.heap.size + 1, 2, none⟩ = false := g2
  have C1 : w4.cell? ⟨P, i * 4 + 1, none⟩ = some (.int .i64 first) := c1
  have C2 : w4.cell? ⟨P, i * 4 + 2, none⟩ = some (.slice (some ⟨g, 0, none⟩) (items.length + 1) c) := c2
  have C0 : w4.cell? ⟨g, 0, none⟩ = some (.string item) := hc0
  have A7 := hid ((H5.out.setR (.int .i64 0) (.int .i64 first) (.slice (some ⟨w4.heap.size, 0, none⟩) 1 1)).addOne item).drew
  have hsz4 : (((w4.setCell ⟨w.heap.size + 1, 0, none⟩ (.int .i64 0)).setCell ⟨w.heap.size + 1, 1, none⟩ (.int .i64 first)).setCell ⟨w.heap.size + 1, 2, none⟩ (.slice (some ⟨w4.heap.size, 0, none⟩) 1 1)).heap.size = w4.heap.size := by simp [World.setCell]
  rw [hsz4] at A7
  have A7 := hid A7
  clear hsz4
  go_wp2
  go_region
  generalize ((((w4.setCell ⟨w.heap.size + 1, 0, none⟩ (.int .i64 0)).setCell ⟨w.heap.size + 1, 1, none⟩ (.int .i64 first)).setCell ⟨w.heap.size + 1, 2, none⟩ (.slice (some ⟨w4.heap.size, 0, none⟩) 1 1)).alloc (.cells #[.string item] 9)).drew = w5 at A7 ⊢
  clear r0 r1 r2 g0 g1 g2 R0 R1 R2 G0 G1 G2 C0 C1 C2 c1 c2 hc0
  have A8 := hid (A7.out.swap)
  have r0 := A8.out.r0
  have r1 := A8.out.r1
  have r2 := A8.out.r2
  go_wp2
  refine bodyPost_ret (v := .tuple #[resV 0 first (.slice (some ⟨w4.heap.size, 0, none⟩) 1 1), .int .i64 i]) (by rw [results_cell_tmp rfl]; go_simp) rfl ?_
  refine ⟨_, rfl, ?_⟩
  exact A8.out.tail.perm (List.perm_middle (l₁ := [blkC P (flat qs) 74, ownC 9 (.slice (some ⟨g, 0, none⟩) (items.length + 1) c) (txtV (item :: items)), mapC b (nb + 1) (D.put (.string tx.data.toList) (.lit (.int .i64 (first + 1))))])).symm
end Go.Proofs.YtkcepkehgkkkbabGreatDoor

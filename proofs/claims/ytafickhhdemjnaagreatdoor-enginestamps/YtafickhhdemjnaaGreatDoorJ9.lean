import Derived.Test.YtafickhhdemjnaaGreatDoorJ8
import Derived.Test.YtafickhhdemjnaaGreatDoorJ7
import Derived.Test.YtafickhhdemjnaaGreatDoorJ5
import Derived.Shelf.SlLaysF0
import Derived.Test.YtafickhhdemjnaaGreatDoorProg
import Derived.Shelf.SlSortCmp.SmallK
namespace Go.Proofs.YtafickhhdemjnaaGreatDoor
open Go.RowKit
set_option linter.unusedVariables false

/-- The names of the queues that are there, in the order of their slots. -/
def nms (qs : List Qv) : List ByteArray := (qs.map (·.nm)).filter fun t => !t.toList.isEmpty
theorem nms_take {qs : List Qv} {k : Nat} {q : Qv} (hq : qs[k]? = some q) : nms (qs.take (k + 1)) = nms (qs.take k) ++ if q.nm.toList.isEmpty then [] else [q.nm] := by
  obtain ⟨hk, rfl⟩ := List.getElem?_eq_some_iff.1 hq
  rw [List.take_succ_eq_append_getElem hk, nms, nms, List.map_append, List.filter_append]
  simp only [List.map_cons, List.map_nil]
  cases h : qs[k].nm.toList.isEmpty <;> simp [h]
theorem nms_len (qs : List Qv) : (nms qs).length ≤ qs.length := by
  have := List.length_filter_le (fun t : ByteArray => !t.toList.isEmpty) (qs.map (·.nm))
  rw [List.length_map] at this
  exact this
/-- And in their own order. -/
def nmsS (qs : List Qv) : List ByteArray := ((rawT (nms qs)).mergeSort fun x y => decide (x ≤ y)).map strB
theorem nmsS_len (qs : List Qv) : (nmsS qs).length = (nms qs).length := by simp [nmsS, rawT_length]

set_option maxHeartbeats 1600000 in
set_option maxRecDepth 1000000 in
theorem names_any {P : Nat} {qs : List Qv} {cs : List Comp} {w : World} (h : All (blkC P (flat qs) 159 :: cs) w) (h8 : qs.length = 8) :
    Calls Tryz.prog 187 #[.pointer (some ⟨P, 0, none⟩)] w fun e w' => ∃ so sc, e = .returned (.slice so (nmsS qs).length sc) ∧ All (ownC 9 (.slice so (nmsS qs).length sc) (txtV (nmsS qs)) :: blkC P (flat qs) 159 :: cs) w' := by
  have A0 := hid (h.addNil (e := 9))
  obtain ⟨i0, hi, hz0, hz1, hz2⟩ := info_parts Tryz.info9
  clear h
  go_enter Tryz.func187, Tryz.ntmps187
  go_wp2
  go_loopw [3, 5] (fun vv iv wr => ∃ (k : Nat) (so : Option Addr) (L sc : Nat), vv = .slice so L sc ∧ iv = .int .i64 (k : Int) ∧ k ≤ 8 ∧ Hid (L = (nms (qs.take k)).length ∧ L ≤ 8) ∧ Hid (All (ownC 9 (.slice so L sc) (txtV (nms (qs.take k))) :: blkC P (flat qs) 159 :: cs) wr)) (fun vv iv _ => 8 - (intOf iv).toNat)
  case atStart => exact ⟨0, none, 0, 0, rfl, rfl, by omega, hid ⟨by simp [nms], by omega⟩, A0⟩
  case round =>
    obtain ⟨k, so, L, sc, rfl, rfl, hk, HL, AR⟩ := hrel
    clear A0
    by_cases hlt : k < 8
    · obtain ⟨q, hq⟩ : ∃ q, qs[k]? = some q := ⟨_, List.getElem?_eq_getElem (by omega)⟩
      have el : decide ((k : Int) < 8) = true := by simp; omega
      have k1 : (0 : Int) ≤ (k : Int) := by omega
      have k2 : (k : Int) < 8 := by omega
      have k3 : ¬ (k : Int) < 0 := by omega
      have c0 := AR.out.q0 mem2 hq
      have HT := hid (nms_take hq)
      have HQ := hid hq
      clear hq
      go_wp2_with fail
      refine (isFree_any c0).mono ?_
      rintro e w1 ⟨rfl, hw⟩
      have A1 := hid (show All (ownC 9 (.slice so L sc) (txtV (nms (qs.take k))) :: blkC P (flat qs) 159 :: cs) w1 from by rw [hw]; exact AR.out)
      clear hw AR c0
      cases he : q.nm.toList.isEmpty with
      | true =>
        rw [he] at HT
        have A2 := hid (show All (ownC 9 (.slice so L sc) (txtV (nms (qs.take (k + 1)))) :: blkC P (flat qs) 159 :: cs) w1 from by rw [HT.out]; simpa using A1.out)
        have HL2 := hid (show L = (nms (qs.take (k + 1))).length ∧ L ≤ 8 from by rw [HT.out]; simpa using HL.out)
        clear A1 he HT
        go_wp2
        go_roundw
        case rel => exact ⟨k + 1, so, L, sc, rfl, by go_num, by omega, HL2, A2⟩
        case measure => simp [intOf]; omega
      | false =>
        rw [he] at HT
        have c0 := A1.out.q0 mem2 HQ.out
        have hrow : w1.ownsRow 0 9 1 (.slice so L sc) L (txtV (nms (qs.take k))) := by
          have h1 : w1.ownsRow 0 9 1 (.slice so L sc) (txtV (nms (qs.take k))).length (txtV (nms (qs.take k))) := A1.out.1.2.1
          rw [txtV_length, ← HL.out.1] at h1
          exact h1
        have hL8 := HL.out.2
        clear he
        go_wp2_with (at_builtin; refine wpList_append_own_at _ rfl (.tmp 15) (.tmp 23) 54 rfl 0 9 i0 (.string ⟨#[]⟩) 1 16 Tryz.und54 hi hz0 hz1 hz2 rfl (by decide) _ _ _ rfl (hrow.alloc _) ⟨w1.heap.size, 0, none⟩ 1 1 [.string q.nm] rfl rfl (cell_one_new _ _ _) (fun u hu => by simp at hu; subst hu; rfl) (by unfold maxLen; omega) (by omega) (by omega) ?_)
        intro v' w3 hown hgr _ hat
        have A4 := (A1.out.alloc (.cells #[.string q.nm] 9)).ownGrow (vs' := txtV (nms (qs.take (k + 1)))) (base := 0) (v' := v') (by
          rw [HT.out, txtV_length, List.length_append, ← HL.out.1]
          simpa [txtV] using hown) hgr (by simpa using hat)
        obtain ⟨so', sc', rfl⟩ := owns_form hown
        have A4 := hid A4
        have HL2 := hid (show L + 1 = (nms (qs.take (k + 1))).length ∧ L + 1 ≤ 8 from by
          have e1 : (nms (qs.take (k + 1))).length = L + 1 := by rw [HT.out, List.length_append, ← HL.out.1]; simp
          have e2 := nms_len (qs.take (k + 1))
          rw [List.length_take] at e2
          exact ⟨e1.symm, by omega⟩)
        clear hown hgr hat A1 hrow c0
        go_wp2
        go_roundw
        case rel => exact ⟨k + 1, so', L + 1, sc', rfl, by go_num, by omega, HL2, A4⟩
        case measure => simp [intOf]; omega
    · obtain rfl : k = 8 := by omega
      rw [List.take_of_length_le (by omega)] at HL AR
      have AS := hid (show All (ownC 9 (.slice so L sc) ((rawT (nms qs)).map Go.Proofs.encStr) :: blkC P (flat qs) 159 :: cs) wr from by rw [← txtV_enc]; exact AR.out)
      clear AR
      go_wp2_with fail
      refine (sort_own AS.out (by rw [rawT_length]; have := HL.out; omega)).mono ?_
      rintro e w2 ⟨rfl, A2⟩
      rw [txtV_ofB] at A2
      have A2 := hid A2
      clear AS
      have HLS := hid (show L = (nmsS qs).length by rw [nmsS_len]; exact HL.out.1)
      go_wp2
      go_ret
      refine ⟨so, sc, by rw [← HLS.out]; rfl, ?_⟩
      rw [← HLS.out]
      exact A2.out
end Go.Proofs.YtafickhhdemjnaaGreatDoor

namespace Go.Proofs.YtafickhhdemjnaaGreatDoor
open Go.RowKit
set_option linter.unusedVariables false

set_option maxHeartbeats 1600000 in
set_option maxRecDepth 1000000 in
theorem list_any {P : Nat} {qs : List Qv} {cs : List Comp} {w : World} (h : All (blkC P (flat qs) 159 :: cs) w) (h8 : qs.length = 8) (at' k : Int) (nm tx : ByteArray) (n m : Int) :
    Calls Tryz.prog 156 #[.pointer (some ⟨P, 0, none⟩), .int .i64 at', opV k nm tx n m] w fun e w' => ∃ so sc, e = .returned (.tuple #[resV 0 0 (.slice so (nmsS qs).length sc), .int .i64 (-1)]) ∧ All (blkC P (flat qs) 159 :: ownC 9 (.slice so (nmsS qs).length sc) (txtV (nmsS qs)) :: cs) w' := by
  have hsz : (w.alloc (opB k nm tx n m)).heap.size = w.heap.size + 1 := by simp
  have H1 := hid (((h.alloc (opB k nm tx n m)).addBlk [.int .i64 0, .int .i64 0, .slice none 0 0] 56))
  rw [hsz] at H1
  clear hsz
  clear h
  go_enter Tryz.func156, Tryz.ntmps156
  go_wp2_with fail
  refine (names_any H1.out.swap h8).mono ?_
  rintro e w1 ⟨so, sc, rfl, A1⟩
  generalize hN : (nmsS qs).length = N at A1 ⊢
  have H2 := hid (A1.perm (ds := blkC (w.heap.size + 1) [.int .i64 0, .int .i64 0, .slice none 0 0] 56 :: blkC P (flat qs) 159 :: ownC 9 (.slice so N sc) (txtV (nmsS qs)) :: cs) ((List.perm_middle (l₁ := [ownC 9 (.slice so N sc) (txtV (nmsS qs)), blkC P (flat qs) 159])).trans (List.Perm.cons _ (List.Perm.swap _ _ _))))
  have HN := hid hN
  clear A1 H1 hN
  have r0 := H2.out.r0
  have r1 := H2.out.r1
  have r2 := H2.out.r2
  have g0 := H2.out.rf 0
  have g1 := H2.out.rf 1
  have g2 := H2.out.rf 2
  have AE := hid (H2.out.setR (.int .i64 0) (.int .i64 0) (.slice so N sc))
  clear H2 
  go_wp2
  generalize (((w1.setCell ⟨w.heap.size + 1, 0, none⟩ (.int .i64 0)).setCell ⟨w.heap.size + 1, 1, none⟩ (.int .i64 0)).setCell ⟨w.heap.size + 1, 2, none⟩ (.slice so N sc)) = we at AE ⊢
  clear r0 r1 r2
  have r0 := AE.out.r0
  have r1 := AE.out.r1
  have r2 := AE.out.r2
  refine bodyPost_ret (v := .tuple #[resV 0 0 (.slice so N sc), .int .i64 (-1)]) (by rw [results_cell_tmp (fn := Tryz.f156) (p := 6) (u := 7) (ty := 56) rfl]; go_simp) rfl ?_
  exact ⟨so, sc, by rw [HN.out], by rw [HN.out]; exact AE.out.tail⟩


set_option maxHeartbeats 1600000 in
set_option maxRecDepth 1000000 in
theorem read_none {P b nb : Nat} {qs : List Qv} {cs : List Comp} {w : World} {i : Nat} {nm0 : ByteArray} {first : Int} {iv : Value} {gv : Value} {items : List ByteArray} (h : All (blkC P (flat qs) 159 :: ownC 9 iv (txtV items) :: cs) w) (h8 : qs.length = 8) (hq : qs[i]? = some ⟨nm0, first, iv, gv⟩) (hl : items.length ≤ 32) (hf0 : 0 ≤ first) (hf1 : first + items.length ≤ 1099511627776) (k : Int) (nm tx : ByteArray) (n m : Int) (hn0 : 0 ≤ n) (hn1 : n ≤ 1099511627776) (hge : first + items.length ≤ max n first) :
    Calls Tryz.prog 154 #[.pointer (some ⟨P, 0, none⟩), .int .i64 i, opV k nm tx n m] w fun e w' => e = .returned (.tuple #[resV 0 n (.slice none 0 0), .int .i64 (-1)]) ∧ All (blkC P (flat qs) 159 :: ownC 9 iv (txtV items) :: cs) w' := by
  have hi8 : i < 8 := by have := (List.getElem?_eq_some_iff.1 hq).1; omega
  obtain ⟨ao, c, eo⟩ := owns_form (h.2.2.1.2.1 : w.ownsRow 0 9 1 iv (txtV items).length (txtV items))
  rw [txtV_length] at eo
  subst eo
  have hsz : (w.alloc (opB k nm tx n m)).heap.size = w.heap.size + 1 := by simp
  have H1 := hid (((h.alloc (opB k nm tx n m)).addBlk [.int .i64 0, .int .i64 0, .slice none 0 0] 56))
  rw [hsz] at H1
  clear hsz
  have HO := heap_alloc_new w (opB k nm tx n m)
  have o3 : ((w.alloc (opB k nm tx n m)).alloc (.cells [Value.int .i64 0, .int .i64 0, .slice none 0 0].toArray 56)).cell? ⟨w.heap.size, 3, none⟩ = some (.int .i64 n) := cell_under (ba _ _) (by simp) (by rw [cell_at HO]; rfl)
  have o4 : ((w.alloc (opB k nm tx n m)).alloc (.cells [Value.int .i64 0, .int .i64 0, .slice none 0 0].toArray 56)).cell? ⟨w.heap.size, 4, none⟩ = some (.int .i64 m) := cell_under (ba _ _) (by simp) (by rw [cell_at HO]; rfl)
  have HQ := hid hq
  have i1 : (0 : Int) ≤ (i : Int) := by omega
  have i2 : (i : Int) < 8 := by omega
  have i3 : ¬ (i : Int) < 0 := by omega
  obtain ⟨idx, hidx⟩ : ∃ idx : Int, Hid (max n first = idx) := ⟨_, hid rfl⟩
  have hge2 : first + (items.length : Int) ≤ idx := by rw [← hidx.out]; exact hge
  clear hge
  clear h hq HO
  generalize hW : (w.alloc (opB k nm tx n m)).alloc (.cells [Value.int .i64 0, .int .i64 0, .slice none 0 0].toArray 56) = w1 at H1 o3 o4
  have s1 : w1.cell? ⟨P, i * 4 + 1, none⟩ = some (.int .i64 first) := H1.out.q1 mem2 HQ.out
  have s1d : w1.drew.cell? ⟨P, i * 4 + 1, none⟩ = some (.int .i64 first) := s1
  have o3d : w1.drew.cell? ⟨w.heap.size, 3, none⟩ = some (.int .i64 n) := o3
  go_enter Tryz.func154, Tryz.ntmps154
  go_wp2
  go_region
  have H2 := hid H1.out.drew
  have p3 := hid (show w1.drew.cell? ⟨w.heap.size, 3, none⟩ = some (.int .i64 n) from o3)
  have p4 := hid (show w1.drew.cell? ⟨w.heap.size, 4, none⟩ = some (.int .i64 m) from o4)
  clear H1 o3 o4 s1 s1d o3d hW
  generalize w1.drew = w2 at H2 p3 p4 ⊢
  rw [hidx.out]
  go_wp2_with fail
  refine (end_q (i := i) (P := P) (H2.out.q1 mem2 HQ.out) (H2.out.q2 mem2 HQ.out) hf0 (by simp only; omega)).mono ?_
  rintro e w3 ⟨rfl, nq, hw⟩
  have H3 := hid (show All (blkC (w.heap.size + 1) [.int .i64 0, .int .i64 0, .slice none 0 0] 56 :: blkC P (flat qs) 159 :: ownC 9 (.slice ao items.length c) (txtV items) :: cs) w3 from by rw [hw]; exact H2.out.drewN nq)
  have o3 : w3.cell? ⟨w.heap.size, 3, none⟩ = some (.int .i64 n) := by rw [hw]; exact p3.out
  have o4 : w3.cell? ⟨w.heap.size, 4, none⟩ = some (.int .i64 m) := by rw [hw]; exact p4.out
  simp only
  clear hw H2 p3 p4
  have eg : decide (first + (items.length : Int) ≤ idx) = true := by simpa using hge2
  have r0 := H3.out.r0
  have r1 := H3.out.r1
  have r2 := H3.out.r2
  have g0 := H3.out.rf 0
  have g1 := H3.out.rf 1
  have g2 := H3.out.rf 2
  have AE := hid (H3.out.setR (.int .i64 0) (.int .i64 n) (.slice none 0 0))
  clear H3 
  go_wp2
  generalize (((w3.setCell ⟨w.heap.size + 1, 0, none⟩ (.int .i64 0)).setCell ⟨w.heap.size + 1, 1, none⟩ (.int .i64 n)).setCell ⟨w.heap.size + 1, 2, none⟩ (.slice none 0 0)) = we at AE ⊢
  clear r0 r1 r2
  have r0 := AE.out.r0
  have r1 := AE.out.r1
  have r2 := AE.out.r2
  refine bodyPost_ret (v := .tuple #[resV 0 n (.slice none 0 0), .int .i64 (-1)]) (by rw [results_cell_tmp (fn := Tryz.f154) (p := 6) (u := 7) (ty := 56) rfl]; go_simp) rfl ?_
  exact ⟨rfl, AE.out.tail⟩

set_option maxHeartbeats 3200000 in
set_option maxRecDepth 1000000 in
theorem read_some {P b nb : Nat} {qs : List Qv} {cs : List Comp} {w : World} {i : Nat} {nm0 : ByteArray} {first : Int} {iv : Value} {gv : Value} {items : List ByteArray} (h : All (blkC P (flat qs) 159 :: ownC 9 iv (txtV items) :: cs) w) (h8 : qs.length = 8) (hq : qs[i]? = some ⟨nm0, first, iv, gv⟩) (hl : items.length ≤ 32) (hf0 : 0 ≤ first) (hf1 : first + items.length ≤ 1099511627776) (k : Int) (nm tx : ByteArray) (n m : Int) (hn0 : 0 ≤ n) (hn1 : n ≤ 1099511627776) (hm0 : 1 ≤ m) (hm1 : m ≤ 8) {d : Nat} (hd : max n first = first + (d : Int)) (hdl : d < items.length) :
    Calls Tryz.prog 154 #[.pointer (some ⟨P, 0, none⟩), .int .i64 i, opV k nm tx n m] w fun e w' => ∃ so sc, e = .returned (.tuple #[resV 0 (first + (d : Int)) (.slice so ((items.drop d).take m.toNat).length sc), .int .i64 (-1)]) ∧ All (blkC P (flat qs) 159 :: ownC 9 iv (txtV items) :: ownC 9 (.slice so ((items.drop d).take m.toNat).length sc) (txtV ((items.drop d).take m.toNat)) :: cs) w' := by
  have hi8 : i < 8 := by have := (List.getElem?_eq_some_iff.1 hq).1; omega
  obtain ⟨ao, c, eo⟩ := owns_form (h.2.2.1.2.1 : w.ownsRow 0 9 1 iv (txtV items).length (txtV items))
  rw [txtV_length] at eo
  subst eo
  have hsz : (w.alloc (opB k nm tx n m)).heap.size = w.heap.size + 1 := by simp
  have H1 := hid (((h.alloc (opB k nm tx n m)).addBlk [.int .i64 0, .int .i64 0, .slice none 0 0] 56))
  rw [hsz] at H1
  clear hsz
  have HO := heap_alloc_new w (opB k nm tx n m)
  have o3 : ((w.alloc (opB k nm tx n m)).alloc (.cells [Value.int .i64 0, .int .i64 0, .slice none 0 0].toArray 56)).cell? ⟨w.heap.size, 3, none⟩ = some (.int .i64 n) := cell_under (ba _ _) (by simp) (by rw [cell_at HO]; rfl)
  have o4 : ((w.alloc (opB k nm tx n m)).alloc (.cells [Value.int .i64 0, .int .i64 0, .slice none 0 0].toArray 56)).cell? ⟨w.heap.size, 4, none⟩ = some (.int .i64 m) := cell_under (ba _ _) (by simp) (by rw [cell_at HO]; rfl)
  have HQ := hid hq
  have i1 : (0 : Int) ≤ (i : Int) := by omega
  have i2 : (i : Int) < 8 := by omega
  have i3 : ¬ (i : Int) < 0 := by omega
  obtain ⟨idx, hidx⟩ : ∃ idx : Int, Hid (max n first = idx) := ⟨_, hid rfl⟩
  have HID := hid (show idx = first + (d : Int) from by rw [← hidx.out]; exact hd)
  clear hd
  clear h hq HO
  generalize hW : (w.alloc (opB k nm tx n m)).alloc (.cells [Value.int .i64 0, .int .i64 0, .slice none 0 0].toArray 56) = w1 at H1 o3 o4
  have s1 : w1.cell? ⟨P, i * 4 + 1, none⟩ = some (.int .i64 first) := H1.out.q1 mem2 HQ.out
  have s1d : w1.drew.cell? ⟨P, i * 4 + 1, none⟩ = some (.int .i64 first) := s1
  have o3d : w1.drew.cell? ⟨w.heap.size, 3, none⟩ = some (.int .i64 n) := o3
  go_enter Tryz.func154, Tryz.ntmps154
  go_wp2
  go_region
  have H2 := hid H1.out.drew
  have p3 := hid (show w1.drew.cell? ⟨w.heap.size, 3, none⟩ = some (.int .i64 n) from o3)
  have p4 := hid (show w1.drew.cell? ⟨w.heap.size, 4, none⟩ = some (.int .i64 m) from o4)
  clear H1 o3 o4 s1 s1d o3d hW
  generalize w1.drew = w2 at H2 p3 p4 ⊢
  rw [hidx.out]
  go_wp2_with fail
  refine (end_q (i := i) (P := P) (H2.out.q1 mem2 HQ.out) (H2.out.q2 mem2 HQ.out) hf0 (by simp only; omega)).mono ?_
  rintro e w3 ⟨rfl, nq, hw⟩
  have H3 := hid (show All (blkC (w.heap.size + 1) [.int .i64 0, .int .i64 0, .slice none 0 0] 56 :: blkC P (flat qs) 159 :: ownC 9 (.slice ao items.length c) (txtV items) :: cs) w3 from by rw [hw]; exact H2.out.drewN nq)
  have o3 : w3.cell? ⟨w.heap.size, 3, none⟩ = some (.int .i64 n) := by rw [hw]; exact p3.out
  have o4 : w3.cell? ⟨w.heap.size, 4, none⟩ = some (.int .i64 m) := by rw [hw]; exact p4.out
  simp only
  clear hw H2 p3 p4
  have eg : decide (first + (items.length : Int) ≤ idx) = false := by have := HID.out; simp; omega
  have hrow := (H3.out.2.2.2.2.1.2.1 : w3.ownsRow 0 9 1 (.slice ao items.length c) (txtV items).length (txtV items))
  have hlc := owns_len hrow
  rw [txtV_length] at hlc
  obtain ⟨g, ea, _, _⟩ := owns_at hrow (k := 0) (u := .string items[0]) (by simp)
  subst ea
  have s2 : w3.cell? ⟨P, i * 4 + 2, none⟩ = some (.slice (some ⟨g, 0, none⟩) items.length c) := H3.out.q2 mem2 HQ.out
  have s1 : w3.cell? ⟨P, i * 4 + 1, none⟩ = some (.int .i64 first) := H3.out.q1 mem2 HQ.out
  have s2d : w3.drew.cell? ⟨P, i * 4 + 2, none⟩ = some (.slice (some ⟨g, 0, none⟩) items.length c) := s2
  have s1d : w3.drew.cell? ⟨P, i * 4 + 1, none⟩ = some (.int .i64 first) := s1
  obtain ⟨L, hL⟩ : ∃ L, Hid (L = items.length - d) := ⟨_, hid rfl⟩
  obtain ⟨C, hC⟩ : ∃ C, Hid (C = c - d) := ⟨_, hid rfl⟩
  obtain ⟨kk, hkk⟩ : ∃ kk, Hid (kk = ((items.drop d).take m.toNat).length) := ⟨_, hid rfl⟩
  have hcut : ∀ W : World, (Instr.slice 54 (.slice (some ⟨g, 0, none⟩) items.length c) (some (.int .i64 (IntKind.i64.wrap (idx - first)))) none none).run Tryz.prog W = .ok (.slice (some ⟨g, d, none⟩) L C) W := by
    intro W
    have e1 : IntKind.i64.wrap (idx - first) = (d : Int) := by rw [HID.out]; simp [IntKind.wrap, IntKind.bits, IntKind.signed]; omega
    rw [e1, run_slice_l W 54 (some ⟨g, 0, none⟩) items.length c (by kernel_rfl) .i64 (d : Int) (by omega) (by omega)]
    have hs : (sizeOf (Tryz.prog.elem 54)).run Tryz.prog W = .ok 1 W := by kernel_rfl
    rw [hs, hL.out, hC.out]
    simp [sliced, Result.andThen, Addr.add_lit]
    omega
  have hkl : kk ≤ L ∧ min m (L : Int) = (kk : Int) := by
    rw [hkk.out, hL.out, List.length_take, List.length_drop]
    omega
  have hcut2 : ∀ W : World, (Instr.slice 54 (.slice (some ⟨g, d, none⟩) L C) none (some (.int .i64 (kk : Int))) none).run Tryz.prog W = .ok (.slice (some ⟨g, d, none⟩) kk C) W := by
    intro W
    have hC1 := hC.out
    have hL1 := hL.out
    rw [run_slice_h W 54 (some ⟨g, d, none⟩) L C (by kernel_rfl) .i64 (kk : Int) (by omega) (by omega)]
    have hs : (sizeOf (Tryz.prog.elem 54)).run Tryz.prog W = .ok 1 W := by kernel_rfl
    rw [hs]
    simp [sliced, Result.andThen, Addr.add_lit]
  have hmin := hkl.2
  have o4d : w3.drew.cell? ⟨w.heap.size, 4, none⟩ = some (.int .i64 m) := o4
  have H4 := hid H3.out.drew
  have TX := hid (show Txts w3.drew (.slice (some ⟨g, d, none⟩) kk C) ((items.drop d).take m.toNat) from by
    refine ⟨_, C, by rw [← hkk.out], by rw [← hkk.out]; have := hC.out; have := hL.out; have := hkl.1; omega, Or.inr ⟨g, d, rfl, ?_, fun j hj => ?_⟩⟩
    · exact H3.out.2.2.2.2.1.2.2 g (by simp [ownC, Value.ownBlock])
    · obtain ⟨g', ea', hc', _⟩ := owns_at hrow (k := d + j) (u := .string ((items.drop d).take m.toNat)[j]) (by
        have hj' : d + j < items.length := by rw [List.length_take, List.length_drop] at hj; omega
        simp [hj'])
      cases ea'
      exact hc')
  clear hrow hkl H3
  go_wp2
  go_region
  all_goals (
    clear s1 s2 s1d s2d o3 o4 hcut
    generalize w3.drew = w4 at H4 o4d TX ⊢
    go_wp2_with fail
    refine (tclone_any TX.out (by rw [← hkk.out]; have := hkk.out; rw [List.length_take, List.length_drop] at this; omega)).mono ?_
    rintro e w5 ⟨s', rfl, h5, B5⟩
    rw [← hkk.out] at h5
    obtain ⟨so, sc, hs5⟩ := owns_form h5
    subst hs5
    have A5 := hid ((H4.out.addOwn (l := txtV ((items.drop d).take m.toNat)) B5 (by rw [txtV_length, ← hkk.out]; exact h5)).swap)
    clear h5 B5 TX H4 hcut2 o4d
    have r0 := A5.out.r0
    have r1 := A5.out.r1
    have r2 := A5.out.r2
    have g0 := A5.out.rf 0
    have g1 := A5.out.rf 1
    have g2 := A5.out.rf 2
    have AE := hid (A5.out.setR (.int .i64 0) (.int .i64 idx) (.slice so kk sc))
    clear A5 
    go_wp2
    generalize (((w5.setCell ⟨w.heap.size + 1, 0, none⟩ (.int .i64 0)).setCell ⟨w.heap.size + 1, 1, none⟩ (.int .i64 idx)).setCell ⟨w.heap.size + 1, 2, none⟩ (.slice so kk sc)) = we at AE ⊢
    clear r0 r1 r2
    have r0 := AE.out.r0
    have r1 := AE.out.r1
    have r2 := AE.out.r2
    refine bodyPost_ret (v := .tuple #[resV 0 idx (.slice so kk sc), .int .i64 (-1)]) (by rw [results_cell_tmp (fn := Tryz.f154) (p := 6) (u := 7) (ty := 56) rfl]; go_simp) rfl ?_
    rw [← hkk.out, ← HID.out]
    refine ⟨so, sc, rfl, ?_⟩
    exact AE.out.tail.perm (List.Perm.trans (List.Perm.swap _ _ _) (List.Perm.cons _ (List.Perm.swap _ _ _))))
end Go.Proofs.YtafickhhdemjnaaGreatDoor

namespace Go.Proofs.YtafickhhdemjnaaGreatDoor
open Go.RowKit
open Go.Maps (Keyed)
set_option linter.unusedVariables false

set_option maxHeartbeats 3200000 in
set_option maxRecDepth 1000000 in
/-- A group that wasn't there takes the first item. -/
theorem take_first {P b nb : Nat} {qs : List Qv} {cs : List Comp} {w : World} {i : Nat} {nm0 : ByteArray} {first : Int} {iv : Value} {D : DataW Unit} {item : ByteArray} {items : List ByteArray} (h : All (blkC P (flat qs) 159 :: ownC 9 iv (txtV (item :: items)) :: mapC b nb D :: cs) w) (h8 : qs.length = 8) (hq : qs[i]? = some ⟨nm0, first, iv, .map (some b)⟩) (hl : items.length < 32) (hf0 : 0 ≤ first) (hf1 : first + items.length < 1099511627776) (k : Int) (nm tx : ByteArray) (n m : Int) (hs : tx.size ≤ maxLen) (hhas : Maps.has D (.string tx.data.toList) = false) (hlen : Maps.size D < 4) (hnb : nb < 1152921504606846976) :
    Calls Tryz.prog 153 #[.pointer (some ⟨P, 0, none⟩), .int .i64 i, opV k nm tx n m] w fun e w' => ∃ so, e = .returned (.tuple #[resV 0 first (.slice so 1 1), .int .i64 i]) ∧ All (blkC P (flat qs) 159 :: ownC 9 iv (txtV (item :: items)) :: mapC b (nb + 1) (D.put (.string tx.data.toList) (.lit (.int .i64 (first + 1)))) :: ownC 9 (.slice so 1 1) (txtV [item]) :: cs) w' := by
  have hi8 : i < 8 := by have := (List.getElem?_eq_some_iff.1 hq).1; omega
  have hrow : w.ownsRow 0 9 1 iv (txtV (item :: items)).length (txtV (item :: items)) := h.2.2.1.2.1
  obtain ⟨ao, c, eo⟩ := owns_form hrow
  rw [List.length_map, List.length_cons] at eo
  subst eo
  have hsz : (w.alloc (opB k nm tx n m)).heap.size = w.heap.size + 1 := by simp
  have H1 := hid (((h.alloc (opB k nm tx n m)).addBlk [.int .i64 0, .int .i64 0, .slice none 0 0] 56))
  rw [hsz] at H1
  have HO := heap_alloc_new w (opB k nm tx n m)
  have o2 := hid (show ((w.alloc (opB k nm tx n m)).alloc (.cells [Value.int .i64 0, .int .i64 0, .slice none 0 0].toArray 56)).cell? ⟨w.heap.size, 2, none⟩ = some (.string tx) from cell_under (ba _ _) (by simp) (by rw [cell_at HO]; rfl))
  have HQ := hid hq
  have i1 : (0 : Int) ≤ (i : Int) := by omega
  have i2 : (i : Int) < 8 := by omega
  have i3 : ¬ (i : Int) < 0 := by omega
  have hkey := WideMaps.keyOf_string_mk Tryz.underlying9 hs
  clear h hq hsz HO hrow
  generalize hW : (w.alloc (opB k nm tx n m)).alloc (.cells [Value.int .i64 0, .int .i64 0, .slice none 0 0].toArray 56) = w1 at H1 o2
  have c1 := H1.out.q1 (List.mem_cons_of_mem _ List.mem_cons_self) HQ.out
  have c2 := H1.out.q2 (List.mem_cons_of_mem _ List.mem_cons_self) HQ.out
  have c3 := H1.out.q3 (List.mem_cons_of_mem _ List.mem_cons_self) HQ.out
  have o3 := o2.out
  have hl1 := lookS (H1.out.drew.2.2.2.2.2.2.1.2.1) hkey
  rw [hhas] at hl1
  have c3d : w1.drew.cell? ⟨P, i * 4 + 3, none⟩ = some (.map (some b)) := c3
  have o3d : w1.drew.cell? ⟨w.heap.size, 2, none⟩ = some (.string tx) := o3
  go_enter Tryz.func153, Tryz.ntmps153
  go_wp2
  go_region
  have H2 := hid H1.out.drew
  have o4 := hid (show (w1.drew).cell? ⟨w.heap.size, 2, none⟩ = some (.string tx) from o2.out)
  clear H1 o2 o3 c1 c2 c3 hl1 hW c3d o3d
  generalize w1.drew = w2 at H2 o4 ⊢
  have c1 := H2.out.q1 mem2 HQ.out
  have c2 := H2.out.q2 mem2 HQ.out
  have c3 := H2.out.q3 mem2 HQ.out
  have hlm := (H2.out.2.2.2.2.2.2.1.2.1 : w2.ownsMap Tryz.prog 9 rE b nb D).len Tryz.und154
  have e4 : ((Maps.size D : Int) == 4) = false := by rw [beq_eq_false_iff_ne]; omega
  go_wp2_with fail
  refine (end_q (i := i) c1 c2 hf0 (by omega)).mono ?_
  rintro e w3 ⟨rfl, nq2, hw⟩
  have H3 := hid (show All _ w3 from by rw [hw]; exact H2.out.drewN nq2)
  have o5 := hid (show w3.cell? ⟨w.heap.size, 2, none⟩ = some (.string tx) from by rw [hw]; exact o4.out)
  clear hw H2 o4 c1 c2 c3 hlm
  have eE : (first == first + ((items.length + 1 : Nat) : Int)) = false := by rw [beq_eq_false_iff_ne]; omega
  have c3 := H3.out.q3 mem2 HQ.out
  have d3 : w3.drew.cell? ⟨P, i * 4 + 3, none⟩ = some (.map (some b)) := c3
  have o6 := o5.out
  have o7 : w3.drew.cell? ⟨w.heap.size, 2, none⟩ = some (.string tx) := o6
  have hwf : (Lit.int .i64 (first + 1)).wf = true := WalkArith.wf_i64 (by omega)
  obtain ⟨w4, hup, ho4, hg4⟩ := World.ownsMap.update (H3.out.drew.2.2.2.2.2.2.1.2.1 : w3.drew.ownsMap Tryz.prog 9 rE b nb D) lawS Tryz.und154 (by unfold maxLen; omega) (val := .int .i64 (first + 1)) hkey (plainElem_int Tryz.underlying3 hwf)
  have H4 := hid (((H3.out.drew).perm (ds := mapC b nb D :: blkC (w.heap.size + 1) [.int .i64 0, .int .i64 0, .slice none 0 0] 56 :: blkC P (flat qs) 159 :: ownC 9 (.slice ao (items.length + 1) c) (txtV (item :: items)) :: cs) (List.perm_middle (l₁ := [blkC (w.heap.size + 1) [.int .i64 0, .int .i64 0, .slice none 0 0] 56, blkC P (flat qs) 159, ownC 9 (.slice ao (items.length + 1) c) (txtV (item :: items))]))).mapTurn hg4 ho4)
  clear ho4 hg4 H3 o5
  go_wp2
  go_region
  clear c3 d3 o6 o7 hup
  have H5 := hid (H4.out.perm (ds := blkC (w.heap.size + 1) [.int .i64 0, .int .i64 0, .slice none 0 0] 56 :: blkC P (flat qs) 159 :: ownC 9 (.slice ao (items.length + 1) c) (txtV (item :: items)) :: mapC b (nb + 1) (D.put (.string tx.data.toList) (.lit (.int .i64 (first + 1)))) :: cs) (List.perm_middle (l₁ := [blkC (w.heap.size + 1) [.int .i64 0, .int .i64 0, .slice none 0 0] 56, blkC P (flat qs) 159, ownC 9 (.slice ao (items.length + 1) c) (txtV (item :: items))])).symm)
  clear H4
  have row := (H5.out.2.2.2.2.1.2.1 : w4.ownsRow 0 9 1 (.slice ao (items.length + 1) c) (txtV (item :: items)).length (txtV (item :: items)))
  obtain ⟨g, ea, hc0, _⟩ := owns_at row (k := 0) (u := .string item) rfl
  have hg := H5.out.2.2.2.2.1.2.2 g (by rw [ea]; simp [ownC, Value.ownBlock])
  have hP : P < w4.heap.size := (H5.out.mem mem2).2.2 P (by simp [blkC])
  have hR : w.heap.size + 1 < w4.heap.size := (H5.out.mem List.mem_cons_self).2.2 _ (by simp [blkC])
  subst ea
  have c1 : w4.drew.cell? ⟨P, i * 4 + 1, none⟩ = some (.int .i64 first) := H5.out.q1 mem2 HQ.out
  have c2 : w4.drew.cell? ⟨P, i * 4 + 2, none⟩ = some (.slice (some ⟨g, 0, none⟩) (items.length + 1) c) := H5.out.q2 mem2 HQ.out
  have hc0 : w4.drew.cell? ⟨g, 0, none⟩ = some (.string item) := hc0
  have r0 : w4.drew.cell? ⟨w.heap.size + 1, 0, none⟩ = some (.int .i64 0) := H5.out.r0
  have r1 : w4.drew.cell? ⟨w.heap.size + 1, 1, none⟩ = some (.int .i64 0) := H5.out.r1
  have r2 : w4.drew.cell? ⟨w.heap.size + 1, 2, none⟩ = some (.slice none 0 0) := H5.out.r2
  have g0 : w4.drew.frozen? ⟨w.heap.size + 1, 0, none⟩ = false := H5.out.rf 0
  have g1 : w4.drew.frozen? ⟨w.heap.size + 1, 1, none⟩ = false := H5.out.rf 1
  have g2 : w4.drew.frozen? ⟨w.heap.size + 1, 2, none⟩ = false := H5.out.rf 2
  clear row
  have R0 : w4.cell? ⟨w.heap.size + 1, 0, none⟩ = some (.int .i64 0) := r0
  have R1 : w4.cell? ⟨w.heap.size + 1, 1, none⟩ = some (.int .i64 0) := r1
  have R2 : w4.cell? ⟨w.heap.size + 1, 2, none⟩ = some (.slice none 0 0) := r2
  have G0 : w4.frozen? ⟨w.heap.size + 1, 0, none⟩ = false := g0
  have G1 : w4.frozen? ⟨w.heap.size + 1, 1, none⟩ = false := g1
  have G2 : w4.frozen? ⟨w.heap.size + 1, 2, none⟩ = false := g2
  have C1 : w4.cell? ⟨P, i * 4 + 1, none⟩ = some (.int .i64 first) := c1
  have C2 : w4.cell? ⟨P, i * 4 + 2, none⟩ = some (.slice (some ⟨g, 0, none⟩) (items.length + 1) c) := c2
  have C0 : w4.cell? ⟨g, 0, none⟩ = some (.string item) := hc0
  have A7 := hid ((H5.out.setR (.int .i64 0) (.int .i64 first) (.slice (some ⟨w4.heap.size, 0, none⟩) 1 1)).addOne item).drew
  have hsz4 : (((w4.setCell ⟨w.heap.size + 1, 0, none⟩ (.int .i64 0)).setCell ⟨w.heap.size + 1, 1, none⟩ (.int .i64 first)).setCell ⟨w.heap.size + 1, 2, none⟩ (.slice (some ⟨w4.heap.size, 0, none⟩) 1 1)).heap.size = w4.heap.size := by simp [World.setCell]
  rw [hsz4] at A7
  have A7 := hid A7
  clear hsz4
  go_wp2
  go_region
  generalize ((((w4.setCell ⟨w.heap.size + 1, 0, none⟩ (.int .i64 0)).setCell ⟨w.heap.size + 1, 1, none⟩ (.int .i64 first)).setCell ⟨w.heap.size + 1, 2, none⟩ (.slice (some ⟨w4.heap.size, 0, none⟩) 1 1)).alloc (.cells #[.string item] 9)).drew = w5 at A7 ⊢
  clear r0 r1 r2 g0 g1 g2 R0 R1 R2 G0 G1 G2 C0 C1 C2 c1 c2 hc0
  have A8 := hid (A7.out.swap)
  have r0 := A8.out.r0
  have r1 := A8.out.r1
  have r2 := A8.out.r2
  go_wp2
  refine bodyPost_ret (v := .tuple #[resV 0 first (.slice (some ⟨w4.heap.size, 0, none⟩) 1 1), .int .i64 i]) (by rw [results_cell_tmp rfl]; go_simp) rfl ?_
  refine ⟨_, rfl, ?_⟩
  exact A8.out.tail.perm (List.perm_middle (l₁ := [blkC P (flat qs) 159, ownC 9 (.slice (some ⟨g, 0, none⟩) (items.length + 1) c) (txtV (item :: items)), mapC b (nb + 1) (D.put (.string tx.data.toList) (.lit (.int .i64 (first + 1))))])).symm
end Go.Proofs.YtafickhhdemjnaaGreatDoor

namespace Go.Proofs.YtafickhhdemjnaaGreatDoor
open Go.RowKit
set_option linter.unusedVariables false

/-- A queue, and where it lies. -/
structure Qs where
  nm : ByteArray
  first : Nat
  items : List ByteArray
  iv : Value
  b : Nat
  n : Nat
  D : DataW Unit
def Qs.v (q : Qs) : Qv := ⟨q.nm, (q.first : Int), q.iv, .map (some q.b)⟩
def slV : Option Qs → Qv
  | none => noQ
  | some q => q.v
def slC : Option Qs → List Comp
  | none => []
  | some q => [ownC 9 q.iv (txtV q.items), mapC q.b q.n q.D]
abbrev St := List (Option Qs)
def stV (S : St) : List Qv := S.map slV
/-- The parts of all slots but one. -/
def restC (S : St) (i : Nat) : List Comp := (S.set i none).flatMap slC
/-- A shelf, as parts. -/
def shL (P : Nat) (S : St) : List Comp := blkC P (flat (stV S)) 159 :: S.flatMap slC

theorem flat_out {S : St} {i : Nat} {s : Option Qs} (h : S[i]? = some s) : (S.flatMap slC).Perm (slC s ++ restC S i) := by
  induction S generalizing i with
  | nil => simp at h
  | cons p S ih =>
    cases i with
    | zero =>
      simp at h; subst h
      simp [restC, slC]
    | succ i =>
      simp only [List.getElem?_cons_succ] at h
      have := ih h
      simp only [restC, List.set_cons_succ, List.flatMap_cons] at this ⊢
      refine (List.Perm.append_left _ this).trans ?_
      rw [← List.append_assoc, ← List.append_assoc]
      exact List.perm_append_comm.append_right _
theorem restC_set (S : St) (i : Nat) (s : Option Qs) : restC (S.set i s) i = restC S i := by simp [restC, List.set_set]
theorem flat_in {S : St} {i : Nat} (hi : i < S.length) (s : Option Qs) : ((S.set i s).flatMap slC).Perm (slC s ++ restC S i) := by
  have := flat_out (S := S.set i s) (i := i) (s := s) (by simp [hi])
  rw [restC_set] at this
  exact this
theorem stV_at {S : St} {i : Nat} {s : Option Qs} (h : S[i]? = some s) : (stV S)[i]? = some (slV s) := by simp [stV, h]
theorem stV_set (S : St) (i : Nat) (s : Option Qs) : stV (S.set i s) = (stV S).set i (slV s) := by simp [stV, List.map_set]
theorem stV_len (S : St) : (stV S).length = S.length := by simp [stV]

/-- One queue is taken out. -/
theorem All.shOut {P : Nat} {S : St} {i : Nat} {q : Qs} {cs : List Comp} {w : World} (h : All (shL P S ++ cs) w) (hq : S[i]? = some (some q)) : All (blkC P (flat (stV S)) 159 :: ownC 9 q.iv (txtV q.items) :: mapC q.b q.n q.D :: (restC S i ++ cs)) w := by
  refine h.perm ?_
  have := ((flat_out hq).append_right cs).cons (blkC P (flat (stV S)) 159)
  simpa [shL, slC] using this
/-- It is put back, turned. -/
theorem All.shIn {P : Nat} {S : St} {i : Nat} {q : Qs} {cs : List Comp} {w : World} (hi : i < S.length) (h : All (blkC P (flat ((stV S).set i q.v)) 159 :: ownC 9 q.iv (txtV q.items) :: mapC q.b q.n q.D :: (restC S i ++ cs)) w) : All (shL P (S.set i (some q)) ++ cs) w := by
  refine h.perm ?_
  have := ((flat_in hi (some q)).append_right cs).cons (blkC P (flat (stV (S.set i (some q)))) 159)
  rw [stV_set] at this
  have h2 := this.symm
  simpa [shL, slC, slV, stV_set] using h2
theorem All.shSame {P : Nat} {S : St} {i : Nat} {q : Qs} {cs : List Comp} {w : World} (hq : S[i]? = some (some q)) (h : All (blkC P (flat (stV S)) 159 :: ownC 9 q.iv (txtV q.items) :: mapC q.b q.n q.D :: (restC S i ++ cs)) w) : All (shL P S ++ cs) w := by
  refine h.perm ?_
  have := ((flat_out hq).append_right cs).cons (blkC P (flat (stV S)) 159)
  have h2 := this.symm
  simpa [shL, slC] using h2
/-- It is gone. -/
theorem All.shDrop {P : Nat} {S : St} {i : Nat} {cs : List Comp} {w : World} (hi : i < S.length) (h : All (blkC P (flat ((stV S).set i noQ)) 159 :: (restC S i ++ cs)) w) : All (shL P (S.set i none) ++ cs) w := by
  have e : shL P (S.set i none) = blkC P (flat ((stV S).set i noQ)) 159 :: restC S i := by simp [shL, stV_set, slV, restC]
  rw [e]
  exact h

/-- What holds of a queue. -/
structure OkQ (N : Nat) (q : Qs) : Prop where
  nm0 : 0 < q.nm.size
  nm16 : q.nm.size ≤ 16
  len : q.items.length ≤ 32
  small : ∀ t ∈ q.items, t.size ≤ 64
  fin : q.first + q.items.length ≤ 1099511627776
  gs : Maps.size q.D ≤ 4
  gk : ∀ x, Maps.has q.D (.string x) = true → 0 < x.length ∧ x.length ≤ 16 ∧ ∃ c : Nat, leftD q.D (.string x) = (c : Int) ∧ q.first ≤ c ∧ c ≤ q.first + q.items.length
  cn : q.n ≤ N
/-- What holds of a shelf. -/
structure OkS (N : Nat) (S : St) : Prop where
  len : S.length = 8
  each : ∀ (i : Nat) (q : Qs), S[i]? = some (some q) → OkQ N q
  one : ∀ (i j : Nat) (q q' : Qs), S[i]? = some (some q) → S[j]? = some (some q') → q.nm = q'.nm → i = j

theorem toList_loop (b : ByteArray) : ∀ (d i : Nat) (r : List UInt8), b.size - i = d → ByteArray.toList.loop b i r = r.reverse ++ b.data.toList.drop i := by
  intro d
  induction d with
  | zero =>
    intro i r h
    unfold ByteArray.toList.loop
    rw [if_neg (by omega), List.drop_of_length_le (by rw [str_len]; omega)]
    simp
  | succ d ih =>
    intro i r h
    unfold ByteArray.toList.loop
    rw [if_pos (by omega), ih (i + 1) _ (by omega)]
    have hi : i < b.data.toList.length := by rw [str_len]; omega
    rw [List.drop_eq_getElem_cons hi]
    simp only [List.reverse_cons, List.append_assoc, List.cons_append, List.nil_append]
    congr 2
    simp only [ByteArray.get!, Array.getElem_toList]
    exact getElem!_pos b.data i (by simpa using hi)
theorem toList_data (s : ByteArray) : s.toList = s.data.toList := by
  unfold ByteArray.toList
  rw [toList_loop s _ 0 [] rfl]
  simp
theorem toList_inj {s t : ByteArray} (h : s.toList = t.toList) : s = t := by
  rw [toList_data, toList_data] at h
  cases s; cases t
  simpa using h
theorem empty_iff (s : ByteArray) : s.toList = [] ↔ s.size = 0 := by
  rw [toList_data, ← List.length_eq_zero_iff, str_len]

/-- A name that is sought: the queue that has it, or none has. -/
theorem find_cases {N : Nat} {S : St} (hS : OkS N S) (nm : ByteArray) (hn : 0 < nm.size) : (findN (stV S) nm = -1 ∧ ∀ (i : Nat) (q : Qs), S[i]? = some (some q) → q.nm ≠ nm) ∨ ∃ (i : Nat) (q : Qs), findN (stV S) nm = (i : Int) ∧ S[i]? = some (some q) ∧ q.nm = nm := by
  cases hf : (stV S).findIdx? (fun q => q.nm.toList == nm.toList) with
  | none =>
    left
    refine ⟨by rw [findN, hf], fun i q hq he => ?_⟩
    rw [List.findIdx?_eq_none_iff] at hf
    have := hf (slV (some q)) (List.mem_of_getElem? (stV_at hq))
    simp [slV, Qs.v, he] at this
  | some i =>
    right
    rw [List.findIdx?_eq_some_iff_getElem] at hf
    obtain ⟨hi, he, _⟩ := hf
    have hf2 : (stV S).findIdx? (fun q => q.nm.toList == nm.toList) = some i := by
      rw [List.findIdx?_eq_some_iff_getElem]; exact ⟨hi, he, by assumption⟩
    have hi' : i < S.length := by rw [stV_len] at hi; exact hi
    have e1 : (stV S)[i] = slV S[i] := by simp [stV]
    rw [e1] at he
    cases hs : S[i] with
    | none =>
      rw [hs] at he
      simp only [slV, beq_iff_eq] at he
      have h0 : nm.toList = [] := by rw [← he, empty_iff]; rfl
      rw [empty_iff] at h0
      omega
    | some q =>
      rw [hs] at he
      simp only [slV, Qs.v, beq_iff_eq] at he
      exact ⟨i, q, by rw [findN, hf2], by rw [List.getElem?_eq_getElem hi', hs], toList_inj he⟩
/-- A free slot. -/
theorem free_cases {N : Nat} {S : St} (hS : OkS N S) : findN (stV S) ⟨#[]⟩ = -1 ∨ ∃ f : Nat, findN (stV S) ⟨#[]⟩ = (f : Int) ∧ S[f]? = some none := by
  cases hf : (stV S).findIdx? (fun q => q.nm.toList == (⟨#[]⟩ : ByteArray).toList) with
  | none => exact Or.inl (by rw [findN, hf])
  | some i =>
    right
    have hf2 := hf
    rw [List.findIdx?_eq_some_iff_getElem] at hf
    obtain ⟨hi, he, _⟩ := hf
    have hi' : i < S.length := by rw [stV_len] at hi; exact hi
    have e1 : (stV S)[i] = slV S[i] := by simp [stV]
    rw [e1] at he
    refine ⟨i, by rw [findN, hf2], ?_⟩
    rw [List.getElem?_eq_getElem hi']
    cases hs : S[i] with
    | none => rfl
    | some q =>
      rw [hs] at he
      simp only [slV, Qs.v, beq_iff_eq] at he
      have h1 := (hS.each i q (by rw [List.getElem?_eq_getElem hi', hs])).nm0
      have h2 : q.nm.toList = [] := by rw [he, empty_iff]; rfl
      rw [empty_iff] at h2
      omega

/-- What an op does that may be. -/
inductive Deed (S : St) (nm tx : ByteArray) (n m : Int) : Int → St → Int → Int → List ByteArray → Int → Prop
  | none (k : Int) (hk : 2 ≤ k ∧ k ≤ 7) (h : findN (stV S) nm = -1) : Deed S nm tx n m k S 1 0 [] (-1)
  | there (h : findN (stV S) nm ≠ -1) : Deed S nm tx n m 1 S 2 0 [] (-1)
  | full (h : findN (stV S) nm = -1) (hf : findN (stV S) ⟨#[]⟩ = -1) : Deed S nm tx n m 1 S 3 0 [] (-1)
  | make (f b : Nat) (h : findN (stV S) nm = -1) (hf : findN (stV S) ⟨#[]⟩ = (f : Int)) (hs : S[f]? = some none) : Deed S nm tx n m 1 (S.set f (some ⟨nm, 0, [], .slice none 0 0, b, 0, .map []⟩)) 0 0 [] (f : Int)
  | drop (i : Nat) (q : Qs) (h : findN (stV S) nm = (i : Int)) (hs : S[i]? = some (some q)) (hn : q.nm = nm) : Deed S nm tx n m 2 (S.set i none) 0 0 [] (i : Int)
  | pushFull (i : Nat) (q : Qs) (h : findN (stV S) nm = (i : Int)) (hs : S[i]? = some (some q)) (hn : q.nm = nm) (hf : q.items.length = 32 ∨ q.first + q.items.length = 1099511627776) : Deed S nm tx n m 3 S 3 0 [] (-1)
  | push (i : Nat) (q : Qs) (iv' : Value) (h : findN (stV S) nm = (i : Int)) (hs : S[i]? = some (some q)) (hn : q.nm = nm) (hl : q.items.length < 32) (hf : q.first + q.items.length < 1099511627776) : Deed S nm tx n m 3 (S.set i (some ⟨q.nm, q.first, q.items ++ [tx], iv', q.b, q.n, q.D⟩)) 0 ((q.first : Int) + (q.items.length : Int)) [] (i : Int)
  | trimNone (i : Nat) (q : Qs) (h : findN (stV S) nm = (i : Int)) (hs : S[i]? = some (some q)) (hn : q.nm = nm) (hl : n ≤ q.first ∨ q.items = []) : Deed S nm tx n m 4 S 0 0 [] (-1)
  | trim (i : Nat) (q : Qs) (iv' : Value) (D' : DataW Unit) (d : Nat) (h : findN (stV S) nm = (i : Int)) (hs : S[i]? = some (some q)) (hn : q.nm = nm) (hd : (q.first : Int) + (d : Int) = min n ((q.first : Int) + (q.items.length : Int))) (h0 : 0 < d) (hl : d ≤ q.items.length) (ht : TrimR q.D ((q.first : Int) + (d : Int)) (fun _ => false) D') : Deed S nm tx n m 4 (S.set i (some ⟨q.nm, q.first + d, q.items.drop d, iv', q.b, q.n, D'⟩)) 0 (d : Int) [] (i : Int)
  | takeFull (i : Nat) (q : Qs) (h : findN (stV S) nm = (i : Int)) (hs : S[i]? = some (some q)) (hn : q.nm = nm) (hh : Maps.has q.D (.string tx.data.toList) = false) (h4 : Maps.size q.D = 4) : Deed S nm tx n m 5 S 3 0 [] (-1)
  | takeEmpty (i : Nat) (q : Qs) (h : findN (stV S) nm = (i : Int)) (hs : S[i]? = some (some q)) (hn : q.nm = nm) (hh : (Maps.has q.D (.string tx.data.toList) = false ∧ Maps.size q.D ≠ 4 ∧ q.items = []) ∨ (Maps.has q.D (.string tx.data.toList) = true ∧ leftD q.D (.string tx.data.toList) = (q.first : Int) + (q.items.length : Int))) : Deed S nm tx n m 5 S 4 0 [] (-1)
  | take (i : Nat) (q : Qs) (d : Nat) (item : ByteArray) (h : findN (stV S) nm = (i : Int)) (hs : S[i]? = some (some q)) (hn : q.nm = nm) (hd : q.items[d]? = some item) (hh : (Maps.has q.D (.string tx.data.toList) = true ∧ leftD q.D (.string tx.data.toList) = (q.first : Int) + (d : Int)) ∨ (Maps.has q.D (.string tx.data.toList) = false ∧ Maps.size q.D < 4 ∧ d = 0)) : Deed S nm tx n m 5 (S.set i (some ⟨q.nm, q.first, q.items, q.iv, q.b, q.n + 1, q.D.put (.string tx.data.toList) (.lit (.int .i64 ((q.first : Int) + (d : Int) + 1)))⟩)) 0 ((q.first : Int) + (d : Int)) [item] (i : Int)
  | readNone (i : Nat) (q : Qs) (h : findN (stV S) nm = (i : Int)) (hs : S[i]? = some (some q)) (hn : q.nm = nm) (hl : (q.first : Int) + (q.items.length : Int) ≤ max n (q.first : Int)) : Deed S nm tx n m 6 S 0 n [] (-1)
  | read (i : Nat) (q : Qs) (d : Nat) (h : findN (stV S) nm = (i : Int)) (hs : S[i]? = some (some q)) (hn : q.nm = nm) (hd : max n (q.first : Int) = (q.first : Int) + (d : Int)) (hl : d < q.items.length) : Deed S nm tx n m 6 S 0 ((q.first : Int) + (d : Int)) ((q.items.drop d).take m.toNat) (-1)
  | count (i : Nat) (q : Qs) (h : findN (stV S) nm = (i : Int)) (hs : S[i]? = some (some q)) (hn : q.nm = nm) : Deed S nm tx n m 7 S 0 (q.items.length : Int) [] (-1)
  | list : Deed S nm tx n m 8 S 0 0 (nmsS (stV S)) (-1)
end Go.Proofs.YtafickhhdemjnaaGreatDoor

/- slices.SortFunc of groups at this program: which number is which. -/
namespace Go.Proofs
open Go.Shelf
def Tryz.sortG_ren : Go.Shelf.Ren := ⟨fun | 6 => 211 | 15 => 221 | 14 => 222 | 28 => 235 | 29 => 236 | 20 => 237 | 21 => 238 | 22 => 239 | 23 => 240 | 24 => 241 | 25 => 242 | 26 => 243 | 27 => 244 | 46 => 250 | 47 => 246 | 48 => 247 | 49 => 251 | 50 => 252 | 57 => 254 | n => n, fun | 22 => 116 | 24 => 214 | 25 => 270 | 3 => 3 | 39 => 271 | 0 => 0 | 53 => 296 | 55 => 251 | 4 => 4 | 46 => 289 | 45 => 288 | 50 => 245 | 5 => 5 | 9 => 9 | 66 => 303 | 70 => 307 | 76 => 311 | 77 => 312 | n => n, fun | n => n⟩
theorem Tryz.sortG : Go.Proofs.SlLaysF0.n6 Tryz.prog Tryz.sortG_ren := {
  mixed := by kernel_rfl
  f6 := ⟨Tryz.f211.name, by decide, Tryz.func211.trans (congrArg some (by kernel_rfl))⟩
  f14 := ⟨Tryz.f222.name, by decide, Tryz.func222.trans (congrArg some (by kernel_rfl))⟩
  f15 := Tryz.func221.trans (congrArg some (by kernel_rfl))
  f20 := ⟨Tryz.f237.name, by decide, Tryz.func237.trans (congrArg some (by kernel_rfl))⟩
  f21 := ⟨Tryz.f238.name, by decide, Tryz.func238.trans (congrArg some (by kernel_rfl))⟩
  f22 := ⟨Tryz.f239.name, by decide, Tryz.func239.trans (congrArg some (by kernel_rfl))⟩
  f23 := ⟨Tryz.f240.name, by decide, Tryz.func240.trans (congrArg some (by kernel_rfl))⟩
  f24 := ⟨Tryz.f241.name, by decide, Tryz.func241.trans (congrArg some (by kernel_rfl))⟩
  f25 := ⟨Tryz.f242.name, by decide, Tryz.func242.trans (congrArg some (by kernel_rfl))⟩
  f26 := ⟨Tryz.f243.name, by decide, Tryz.func243.trans (congrArg some (by kernel_rfl))⟩
  f27 := ⟨Tryz.f244.name, by decide, Tryz.func244.trans (congrArg some (by kernel_rfl))⟩
  f28 := Tryz.func235.trans (congrArg some (by kernel_rfl))
  f29 := Tryz.func236.trans (congrArg some (by kernel_rfl))
  f46 := ⟨Tryz.f250.name, by decide, Tryz.func250.trans (congrArg some (by kernel_rfl))⟩
  f47 := Tryz.func246.trans (congrArg some (by kernel_rfl))
  f48 := Tryz.func247.trans (congrArg some (by kernel_rfl))
  f49 := ⟨Tryz.f251.name, by decide, Tryz.func251.trans (congrArg some (by kernel_rfl))⟩
  f50 := ⟨Tryz.f252.name, by decide, Tryz.func252.trans (congrArg some (by kernel_rfl))⟩
  f57 := ⟨Tryz.f254.name, by decide, Tryz.func254.trans (congrArg some (by kernel_rfl))⟩
  t0 := Tryz.underlying0
  a0 := Tryz.isAgg0
  z0 := Tryz.sizeOf0
  v0 := Tryz.zeroValue0
  t3 := Tryz.underlying3
  a3 := Tryz.isAgg3
  z3 := Tryz.sizeOf3
  v3 := Tryz.zeroValue3
  t4 := Tryz.underlying4
  a4 := Tryz.isAgg4
  z4 := Tryz.sizeOf4
  v4 := Tryz.zeroValue4
  t5 := Tryz.underlying5
  a5 := Tryz.isAgg5
  z5 := Tryz.sizeOf5
  v5 := Tryz.zeroValue5
  t9 := Tryz.underlying9
  a9 := Tryz.isAgg9
  z9 := Tryz.sizeOf9
  v9 := Tryz.zeroValue9
  t22 := Tryz.underlying116
  a22 := Tryz.isAgg116
  z22 := Tryz.sizeOf116
  v22 := Tryz.zeroValue116
  t25 := Tryz.underlying270
  a25 := Tryz.isAgg270
  z25 := Tryz.sizeOf270
  v25 := Tryz.zeroValue270
  t39 := Tryz.underlying271
  a39 := Tryz.isAgg271
  z39 := Tryz.sizeOf271
  v39 := Tryz.zeroValue271
  t45 := Tryz.underlying288
  a45 := Tryz.isAgg288
  z45 := Tryz.sizeOf288
  v45 := Tryz.zeroValue288
  t46 := Tryz.underlying289
  a46 := Tryz.isAgg289
  z46 := Tryz.sizeOf289
  v46 := Tryz.zeroValue289
  t50 := Tryz.underlying245
  a50 := Tryz.isAgg245
  z50 := Tryz.sizeOf245
  v50 := Tryz.zeroValue245
  t53 := Tryz.underlying296
  a53 := Tryz.isAgg296
  z53 := Tryz.sizeOf296
  v53 := Tryz.zeroValue296
  t55 := Tryz.underlying251
  a55 := Tryz.isAgg251
  z55 := Tryz.sizeOf251
  v55 := Tryz.zeroValue251
  t66 := Tryz.underlying303
  a66 := Tryz.isAgg303
  z66 := Tryz.sizeOf303
  v66 := Tryz.zeroValue303
  t70 := Tryz.underlying307
  a70 := Tryz.isAgg307
  z70 := Tryz.sizeOf307
  v70 := Tryz.zeroValue307
  t76 := Tryz.underlying311
  a76 := Tryz.isAgg311
  z76 := Tryz.sizeOf311
  v76 := Tryz.zeroValue311
  t77 := Tryz.underlying312
  a77 := Tryz.isAgg312
  z77 := Tryz.sizeOf312
  v77 := Tryz.zeroValue312 }
end Go.Proofs

namespace Go.Proofs.YtafickhhdemjnaaGreatDoor
open Go.RowKit Go.Sort Go.Lib
set_option linter.unusedVariables false

abbrev Grp := List UInt8 × Int
def cmpL (x y : List UInt8) : Int := if x < y then -1 else if y < x then 1 else 0
def encG (g : Grp) : List Value := [encStr g.1, .int .i64 g.2]

theorem lt_tri {x y : List UInt8} (h1 : ¬ x < y) (h2 : ¬ y < x) : x = y := List.le_antisymm (List.not_lt.1 h2) (List.not_lt.1 h1)
theorem cmpL_lt {x y : List UInt8} (h : x < y) : cmpL x y = -1 := by rw [cmpL, if_pos h]
theorem cmpL_gt {x y : List UInt8} (h : ¬ x < y) (h2 : ¬ x = y) : cmpL x y = 1 := by
  rw [cmpL, if_neg h]
  by_cases h3 : y < x
  · rw [if_pos h3]
  · exact absurd (lt_tri h h3) h2
theorem cmpL_eq {x y : List UInt8} (h : ¬ x < y) (h2 : x = y) : cmpL x y = 0 := by
  subst h2
  rw [cmpL, if_neg h, if_neg h]

theorem gtr_s (t : TypeId) (a b : ByteArray) : binOp .gtr t (.string a) (.string b) = pure (.bool !(Op.bytesLess a.toList b.toList || a.toList == b.toList)) := by simp [binOp, Op.stringOp]

theorem nan_any (x : ByteArray) (W : World) : Calls Tryz.prog 223 #[.string x] W fun e w' => e = .returned (.bool false) ∧ w' = W := by
  go_enter Tryz.func223, Tryz.ntmps223
  go_wp2
  go_ret
  exact ⟨by simp, rfl⟩

theorem cmp_any (x y : ByteArray) (W : World) : Calls Tryz.prog 213 #[.string x, .string y] W fun e w' => e = .returned (.int .i64 (cmpL x.toList y.toList)) ∧ w' = W := by
  have hb1 := bytesLess_eq x.toList y.toList
  have hg := gtr_s 9 x y
  rw [hb1] at hg
  go_enter Tryz.func213, Tryz.ntmps213
  go_wp2_with fail
  refine (nan_any _ _).mono ?_
  rintro e w1 ⟨rfl, rfl⟩
  go_wp2_with fail
  refine (nan_any _ _).mono ?_
  rintro e w1 ⟨rfl, rfl⟩
  go_wp2_with fail
  · go_ret
    rename_i h
    refine ⟨?_, rfl⟩
    rw [cmpL_lt h]
    rfl
  · go_ret
    rename_i h _ _ h2
    refine ⟨?_, rfl⟩
    rw [cmpL_gt h (by simpa using h2)]
    rfl
  · go_ret
    rename_i h h2
    refine ⟨?_, rfl⟩
    rw [cmpL_eq h (by simpa using h2)]
    rfl

theorem strB_toList (x : List UInt8) : (strB x).toList = x := ByteArray.toList_mk x

set_option maxHeartbeats 1000000 in
theorem clo_any (x y : Grp) (W : World) : Calls Tryz.prog 212 #[.agg #[encStr x.1, .int .i64 x.2], .agg #[encStr y.1, .int .i64 y.2]] W fun e w' => e = .returned (.int .i64 (cmpL x.1 y.1)) ∧ ∃ q os', w' = grow (W.drewN q) os' := by
  have hcon := fun W' => cmp_any (strB x.1) (strB y.1) W'
  rw [strB_toList, strB_toList] at hcon
  generalize cmpL x.1 y.1 = r at hcon ⊢
  go_enter Tryz.func212, Tryz.ntmps212
  go_wp2_with (go_at_call 213; refine (hcon _).mono ?_; rintro e w' ⟨rfl, rfl⟩)
  go_ret
  exact ⟨rfl, 0, _, by rw [alloc_eq_grow, alloc_eq_grow, grow_grow]; rfl⟩
theorem cmpLaysG (blk off size : Nat) (w : World) : CmpLays Tryz.prog 212 #[] encG 2 (fun x y => cmpL x.1 y.1) blk off size w :=
  fun _ _ _ _ x y => clo_any x y _

set_option maxRecDepth 1000000 in
theorem lenG (n : Nat) (W : World) (h : n ≤ 12) : Calls Tryz.prog 221 #[.int .u64 n] W fun e w' => (∃ l : Int, e = .returned (.int .i64 l)) ∧ w' = W := by
  have : n = 0 ∨ n = 1 ∨ n = 2 ∨ n = 3 ∨ n = 4 ∨ n = 5 ∨ n = 6 ∨ n = 7 ∨ n = 8 ∨ n = 9 ∨ n = 10 ∨ n = 11 ∨ n = 12 := by omega
  rcases this with rfl | rfl | rfl | rfl | rfl | rfl | rfl | rfl | rfl | rfl | rfl | rfl | rfl <;> (go_enter Tryz.func221, Tryz.ntmps221; go_wp2; go_ret; exact ⟨⟨_, rfl⟩, rfl⟩)

theorem ltG (x y : Grp) : ltOf (fun x y : Grp => cmpL x.1 y.1) x y = decide (x.1 < y.1) := by
  unfold ltOf
  show decide (cmpL x.1 y.1 < 0) = _
  by_cases h1 : x.1 < y.1
  · rw [cmpL_lt h1]; simp [h1]
  · by_cases h2 : x.1 = y.1
    · rw [cmpL_eq h1 h2]; simp [h1]
    · rw [cmpL_gt h1 h2]; simp [h1]
theorem swoG : SWO (ltOf fun x y : Grp => cmpL x.1 y.1) where
  irrefl x := by rw [ltG]; simp
  trans x y z h1 h2 := by
    rw [ltG] at *
    simp only [decide_eq_true_eq] at *
    exact List.lt_trans h1 h2
  ntrans x y z h1 h2 := by
    rw [ltG] at *
    simp only [decide_eq_false_iff_not, List.not_lt] at *
    exact List.le_trans h2 h1

/-- The row's cells, flat. -/
theorem flat_eq (gs : List Grp) : flatK encG 2 gs.toArray = (cellsG gs).toArray := by
  refine ext_get! (by simp [cellsG_len]) fun t ht => ?_
  have ht' : t < gs.length * 2 := by simpa using ht
  rw [get_flatK _ _ _ t (by simpa using ht')]
  have hk : t / 2 < gs.length := by omega
  obtain ⟨h1, h2⟩ := cellsG_at hk
  have hm : t % 2 = 0 ∨ t % 2 = 1 := by omega
  have eg : gs.toArray[t / 2]! = gs[t / 2] := by simp [hk]
  rw [eg]
  rcases hm with hm | hm
  · have e : t / 2 * 2 = t := by omega
    rw [e] at h1
    rw [hm]
    simp [encG, h1, Array.getElem!_eq_getD, Array.getD_eq_getD_getElem?]
  · have e : t / 2 * 2 + 1 = t := by omega
    rw [e] at h2
    rw [hm]
    simp [encG, h2, Array.getElem!_eq_getD, Array.getD_eq_getD_getElem?]
theorem holdsG {w : World} {g : Nat} {cur : Array Value} {gs : List Grp} (hb : w.heap[g]? = some (.cells cur 214 (0, 0))) (ht : cur.toList.take (gs.length * 2) = cellsG gs) : HoldsK encG 2 w g 0 gs.toArray := by
  unfold HoldsK
  rw [flat_eq]
  intro j hj
  have hj' : j < gs.length * 2 := by simpa [cellsG_len] using hj
  refine ⟨?_, by simp [World.frozen?, hb]⟩
  have h1 : (cur.toList.take (gs.length * 2))[j]? = (cellsG gs)[j]? := by rw [ht]
  rw [List.getElem?_take_of_lt hj'] at h1
  simp only [World.cell?, hb, Nat.zero_add]
  simp only [Option.isSome_none, Bool.false_eq_true, if_false]
  rw [← Array.getElem?_toList, h1]
  have : j < (cellsG gs).length := by rw [cellsG_len]; exact hj'
  simp [this]
theorem heapG {w : World} {g n : Nat} {os : Array Obj} {cur : Array Value} {e : TypeId} {fr : Nat × Nat} (d : Array Value) (hb : w.heap[g]? = some (.cells cur e fr)) :
    (grow (putRow id (Sort.ahead w n) g 0 d) os).heap[g]? = some (.cells (putCells id 0 d cur) e fr) := by
  have hg : g < w.heap.size := (Array.getElem?_eq_some_iff.1 hb).1
  rw [heap_grow_old _ _ (by simpa using hg)]
  simp [putRow, mapBlock, Sort.ahead, Array.getElem?_modify, hb, onCells]
theorem grownG {w : World} {g n : Nat} {os : Array Obj} (d : Array Value) : w.grownBy (grow (putRow id (Sort.ahead w n) g 0 d) os) (some g) := by
  refine ⟨rfl, rfl, rfl, by simp, fun k hk hne => ?_⟩
  rw [heap_grow_old _ _ (by simpa using hk)]
  have : g ≠ k := fun e => hne (by rw [e])
  simp [putRow, mapBlock, Sort.ahead, Array.getElem?_modify, this]
theorem takeG (cur : Array Value) (ts : List Value) (h : ts.length ≤ cur.size) : (putCells id 0 ts.toArray cur).toList.take ts.length = ts := by
  apply List.ext_getElem?
  intro j
  by_cases hj : j < ts.length
  · rw [List.getElem?_take_of_lt hj, Array.getElem?_toList]
    simp [putCells, hj, show j < cur.size by omega]
  · rw [List.getElem?_take_eq_none (by omega), List.getElem?_eq_none (by omega)]

set_option maxRecDepth 1000000 in
theorem insG_nil {w : World} (f : Value) : Calls Tryz.prog 237 #[.slice none 0 0, .int .i64 0, .int .i64 0, f] w fun e w' => e = .returned (.tuple #[]) ∧ w' = w := by
  go_enter Tryz.func237, Tryz.ntmps237
  go_wp2
  refine wp_loop_rounds 1 ?_
  rw [rounds_succ]
  go_wp2
  go_end0
  exact ⟨rfl, rfl⟩
set_option maxRecDepth 1000000 in
theorem pdqG_nil {w : World} (lim : Int) (f : Value) : Calls Tryz.prog 222 #[.slice none 0 0, .int .i64 0, .int .i64 0, .int .i64 lim, f] w fun e w' => e = .returned (.tuple #[]) ∧ w' = w := by
  go_enter Tryz.func222, Tryz.ntmps222
  go_wp2_with fail
  refine wp_loop_rounds 1 ?_
  rw [rounds_succ]
  go_wp2_with fail
  refine (insG_nil f).mono ?_
  rintro e w1 ⟨rfl, rfl⟩
  go_wp2
  (try simp only [Exit.inBlock, Exit.then])
  refine bodyPost_ret (results_none rfl _ _ _) rfl ?_
  exact ⟨rfl, rfl⟩
set_option maxRecDepth 1000000 in
theorem sortG_nil {w : World} (f : Value) : Calls Tryz.prog 211 #[.slice none 0 0, f] w fun e w' => e = .returned (.tuple #[]) ∧ w' = w := by
  go_enter Tryz.func211, Tryz.ntmps211
  go_wp2_with fail
  refine (lenG 0 _ (by omega)).mono ?_
  rintro e w1 ⟨⟨n, rfl⟩, rfl⟩
  go_wp2_with fail
  refine (pdqG_nil n f).mono ?_
  rintro e w1 ⟨rfl, rfl⟩
  go_wp2
  go_end0
  exact ⟨rfl, rfl⟩

/-- Groups in the order of their names. -/
def SortedG (gs : List Grp) : Prop := gs.Pairwise fun x y => ¬ y.1 < x.1

/-- A row of groups of one's own, put in order. -/
theorem sortG_own {w : World} {v : Value} {gs : List Grp} {cs : List Comp} (h : All (rowG v gs :: cs) w) (hl : gs.length ≤ 12) : Calls Tryz.prog 211 #[v, .func (.func 212) #[] #[]] w fun e w' => e = .returned (.tuple #[]) ∧ ∃ gs' : List Grp, gs'.Perm gs ∧ SortedG gs' ∧ All (rowG v gs' :: cs) w' := by
  have ho : w.ownsRow 0 214 2 v gs.length (cellsG gs) := h.1.2.1
  rcases ho.2 with ⟨rfl, e⟩ | ⟨g, cap, cur, rfl, hg0, hg, hn, hm, hcs, ht⟩
  · have hnil : gs = [] := List.eq_nil_of_length_eq_zero e
    subst hnil
    refine (sortG_nil _).mono ?_
    rintro e w' ⟨he, rfl⟩
    exact ⟨he, [], .refl _, List.Pairwise.nil, h⟩
  · have hglt := (Array.getElem?_eq_some_iff.1 hg).1
    have eg : ∀ args w, (callFunc 212 args).run Tryz.prog w = .ok (.enter 212 args) w := enters_of Tryz.func212 (by kernel_rfl) rfl
    have hcon := AnyQ.slices_SortFunc_small_sorted Tryz.sortG 2 Tryz.isAgg214 Tryz.sizeOf214 encG (fun _ => rfl) (fun x v hv => by simp [encG] at hv; rcases hv with rfl | rfl <;> rfl) (fun x y => cmpL x.1 y.1) 212 #[] swoG g 0 cap gs.toArray w eg (cmpLaysG g 0 _ w) (holdsG hg ht) hglt (by simpa using hl) lenG
    refine (show Calls Tryz.prog 211 _ w _ from hcon).mono ?_
    rintro e w' ⟨he, d', n, os, hp, hs, rfl⟩
    refine ⟨he, d'.toList, ?_, ?_, ?_⟩
    · have h3 := hp.2.2
      have e1 : (d'.extract 0 gs.toArray.size).toList = d'.toList := by
        have : gs.toArray.size = d'.size := hp.1.symm
        rw [this]; simp
      rw [e1] at h3
      simpa using h3
    · have hsz : d'.size = gs.length := by simpa using hp.1
      rw [SortedG, List.pairwise_iff_getElem]
      intro i j hi hj hij
      have hi' : i < d'.size := by simpa using hi
      have hj' : j < d'.size := by simpa using hj
      have := hs i j (Nat.zero_le _) hij (by simpa [hsz] using hj')
      rw [ltG, getElem!_pos d' i hi', getElem!_pos d' j hj'] at this
      simpa using this
    · have hsz : d'.toList.length = gs.length := by simpa using hp.1
      have hF : flatK encG 2 d' = (cellsG d'.toList).toArray := by
        have := flat_eq d'.toList
        simpa using this
      have hw : sortWorldK encG 2 w g 0 n d' os = grow (putRow id (Sort.ahead w n) g 0 (cellsG d'.toList).toArray) os := by
        unfold sortWorldK putRowK
        rw [hF]
      rw [hw]
      have hcl : (cellsG d'.toList).length = gs.length * 2 := by rw [cellsG_len, hsz]
      refine h.growG (base := 0) (v' := .slice (some ⟨g, 0, none⟩) gs.length cap) ⟨?_, Or.inr ⟨g, cap, _, by rw [hsz], Nat.zero_le _, heapG _ hg, by rw [hsz]; exact hn, hm, by simpa [putCells] using hcs, ?_⟩⟩ (by simpa [Value.ownBlock] using grownG _) (Or.inl rfl)
      · rw [hcl, hsz]
      · rw [hsz, ← hcl]
        exact takeG cur _ (by rw [hcl, hcs]; omega)
end Go.Proofs.YtafickhhdemjnaaGreatDoor

import Derived.Test.YtkcepkehgkkkbabDoorTake
namespace Go.Proofs.YtkcepkehgkkkbabDoor
open Go.RowKit
set_option linter.unusedVariables false

set_option maxHeartbeats 1600000 in
set_option maxRecDepth 1000000 in
theorem make_there {P : Nat} {qs : List Qv} {cs : List Comp} {w : World} (h : All (blkC P (flat qs) 56 :: cs) w) (h8 : qs.length = 8) {at' : Int} (ha : at' ≠ -1) (k : Int) (nm tx : ByteArray) (n m : Int) :
    Calls Tryd.prog 35 #[.pointer (some ⟨P, 0, none⟩), .int .i64 at', opV k nm tx n m] w fun e w' => e = .returned (.tuple #[resV 2 0 (.slice none 0 0), .int .i64 (-1)]) ∧ All (blkC P (flat qs) 56 :: cs) w' := by
  have hsz : (w.alloc (opB k nm tx n m)).heap.size = w.heap.size + 1 := by simp
  have H1 := hid (((h.alloc (opB k nm tx n m)).addBlk [.int .i64 0, .int .i64 0, .slice none 0 0] 30))
  rw [hsz] at H1
  clear hsz
  have ea : (at' != -1) = true := by simpa using ha
  clear h ha
  go_enter Tryd.func35, Tryd.ntmps35
  go_wp2_with fail
  refine (find_any (H1.out.blk mem2) h8 ⟨#[]⟩).mono ?_
  rintro e w1 ⟨rfl, hw⟩
  have H2 := hid (show All (blkC (w.heap.size + 1) [.int .i64 0, .int .i64 0, .slice none 0 0] 30 :: blkC P (flat qs) 56 :: cs) w1 from by rw [hw]; exact H1.out)
  clear hw H1
  have r0 := H2.out.r0
  have r1 := H2.out.r1
  have r2 := H2.out.r2
  have g0 := H2.out.rf 0
  have g1 := H2.out.rf 1
  have g2 := H2.out.rf 2
  have AE := hid (H2.out.setR (.int .i64 2) (.int .i64 0) (.slice none 0 0))
  clear H2 
  go_wp2
  generalize (((w1.setCell ⟨w.heap.size + 1, 0, none⟩ (.int .i64 2)).setCell ⟨w.heap.size + 1, 1, none⟩ (.int .i64 0)).setCell ⟨w.heap.size + 1, 2, none⟩ (.slice none 0 0)) = we at AE ⊢
  clear r0 r1 r2
  have r0 := AE.out.r0
  have r1 := AE.out.r1
  have r2 := AE.out.r2
  refine bodyPost_ret (v := .tuple #[resV 2 0 (.slice none 0 0), .int .i64 (-1)]) (by rw [results_cell_tmp rfl]; go_simp) rfl ?_
  exact ⟨rfl, AE.out.tail⟩

set_option maxHeartbeats 1600000 in
set_option maxRecDepth 1000000 in
theorem make_full {P : Nat} {qs : List Qv} {cs : List Comp} {w : World} (h : All (blkC P (flat qs) 56 :: cs) w) (h8 : qs.length = 8) (hf : findN qs ⟨#[]⟩ = -1) (k : Int) (nm tx : ByteArray) (n m : Int) :
    Calls Tryd.prog 35 #[.pointer (some ⟨P, 0, none⟩), .int .i64 (-1), opV k nm tx n m] w fun e w' => e = .returned (.tuple #[resV 3 0 (.slice none 0 0), .int .i64 (-1)]) ∧ All (blkC P (flat qs) 56 :: cs) w' := by
  have hsz : (w.alloc (opB k nm tx n m)).heap.size = w.heap.size + 1 := by simp
  have H1 := hid (((h.alloc (opB k nm tx n m)).addBlk [.int .i64 0, .int .i64 0, .slice none 0 0] 30))
  rw [hsz] at H1
  clear hsz
  have HF := hid hf
  clear h hf
  go_enter Tryd.func35, Tryd.ntmps35
  go_wp2_with fail
  refine (find_any (H1.out.blk mem2) h8 ⟨#[]⟩).mono ?_
  rw [HF.out]
  rintro e w1 ⟨rfl, hw⟩
  have H2 := hid (show All (blkC (w.heap.size + 1) [.int .i64 0, .int .i64 0, .slice none 0 0] 30 :: blkC P (flat qs) 56 :: cs) w1 from by rw [hw]; exact H1.out)
  clear hw H1
  have r0 := H2.out.r0
  have r1 := H2.out.r1
  have r2 := H2.out.r2
  have g0 := H2.out.rf 0
  have g1 := H2.out.rf 1
  have g2 := H2.out.rf 2
  have AE := hid (H2.out.setR (.int .i64 3) (.int .i64 0) (.slice none 0 0))
  clear H2 
  go_wp2
  generalize (((w1.setCell ⟨w.heap.size + 1, 0, none⟩ (.int .i64 3)).setCell ⟨w.heap.size + 1, 1, none⟩ (.int .i64 0)).setCell ⟨w.heap.size + 1, 2, none⟩ (.slice none 0 0)) = we at AE ⊢
  clear r0 r1 r2
  have r0 := AE.out.r0
  have r1 := AE.out.r1
  have r2 := AE.out.r2
  refine bodyPost_ret (v := .tuple #[resV 3 0 (.slice none 0 0), .int .i64 (-1)]) (by rw [results_cell_tmp rfl]; go_simp) rfl ?_
  exact ⟨rfl, AE.out.tail⟩

set_option maxHeartbeats 1600000 in
set_option maxRecDepth 1000000 in
theorem drop_any {P : Nat} {qs : List Qv} {cs : List Comp} {w : World} (h : All (blkC P (flat qs) 56 :: cs) w) (h8 : qs.length = 8) {i : Nat} {q : Qv} (hq : qs[i]? = some q) (k : Int) (nm tx : ByteArray) (n m : Int) :
    Calls Tryd.prog 36 #[.pointer (some ⟨P, 0, none⟩), .int .i64 i, opV k nm tx n m] w fun e w' => e = .returned (.tuple #[resV 0 0 (.slice none 0 0), .int .i64 i]) ∧ All (blkC P (flat (qs.set i noQ)) 56 :: cs) w' := by
  have hi8 : i < 8 := by have := (List.getElem?_eq_some_iff.1 hq).1; omega
  have hsz : (w.alloc (opB k nm tx n m)).heap.size = w.heap.size + 1 := by simp
  have H1 := hid (((h.alloc (opB k nm tx n m)).addBlk [.int .i64 0, .int .i64 0, .slice none 0 0] 30))
  rw [hsz] at H1
  clear hsz
  have i1 : (0 : Int) ≤ (i : Int) := by omega
  have i2 : (i : Int) < 8 := by omega
  have i3 : ¬ (i : Int) < 0 := by omega
  have F := H1.out.four mem2 hq
  have s0 := F.c0
  have s1 := F.c1
  have s2 := F.c2
  have s3 := F.c3
  have f0 := F.f (i * 4)
  have f1 := F.f (i * 4 + 1)
  have f2 := F.f (i * 4 + 2)
  have f3 := F.f (i * 4 + 3)
  have A2 := hid ((H1.out.swap.setQ hq noQ).swap)
  have r0 := A2.out.r0
  have r1 := A2.out.r1
  have r2 := A2.out.r2
  have g0 := A2.out.rf 0
  have g1 := A2.out.rf 1
  have g2 := A2.out.rf 2
  have AE := hid (A2.out.setR (.int .i64 0) (.int .i64 0) (.slice none 0 0))
  simp only at A2 AE r0 r1 r2 g0 g1 g2
  clear h hq F H1 A2
  generalize hW : (w.alloc (opB k nm tx n m)).alloc (.cells [Value.int .i64 0, .int .i64 0, .slice none 0 0].toArray 30) = w1 at *
  go_enter Tryd.func36, Tryd.ntmps36
  go_wp2
  generalize (((((((w1.setCell ⟨P, i * 4, none⟩ (.string ⟨#[]⟩)).setCell ⟨P, i * 4 + 1, none⟩ (.int .i64 0)).setCell ⟨P, i * 4 + 2, none⟩ (.slice none 0 0)).setCell ⟨P, i * 4 + 3, none⟩ (.map none)).setCell ⟨w.heap.size + 1, 0, none⟩ (.int .i64 0)).setCell ⟨w.heap.size + 1, 1, none⟩ (.int .i64 0)).setCell ⟨w.heap.size + 1, 2, none⟩ (.slice none 0 0)) = we at AE ⊢
  clear r0 r1 r2
  have r0 := AE.out.r0
  have r1 := AE.out.r1
  have r2 := AE.out.r2
  refine bodyPost_ret (v := .tuple #[resV 0 0 (.slice none 0 0), .int .i64 i]) (by rw [results_cell_tmp rfl]; go_simp) rfl ?_
  exact ⟨rfl, AE.out.tail⟩

set_option maxHeartbeats 1600000 in
set_option maxRecDepth 1000000 in
theorem count_any {P : Nat} {qs : List Qv} {cs : List Comp} {w : World} (h : All (blkC P (flat qs) 56 :: cs) w) (h8 : qs.length = 8) {i : Nat} {nm0 : ByteArray} {first : Int} {ao : Option Addr} {len c : Nat} {gv : Value} (hq : qs[i]? = some ⟨nm0, first, .slice ao len c, gv⟩) (k : Int) (nm tx : ByteArray) (n m : Int) :
    Calls Tryd.prog 41 #[.pointer (some ⟨P, 0, none⟩), .int .i64 i, opV k nm tx n m] w fun e w' => e = .returned (.tuple #[resV 0 len (.slice none 0 0), .int .i64 (-1)]) ∧ All (blkC P (flat qs) 56 :: cs) w' := by
  have hi8 : i < 8 := by have := (List.getElem?_eq_some_iff.1 hq).1; omega
  have hsz : (w.alloc (opB k nm tx n m)).heap.size = w.heap.size + 1 := by simp
  have H1 := hid (((h.alloc (opB k nm tx n m)).addBlk [.int .i64 0, .int .i64 0, .slice none 0 0] 30))
  rw [hsz] at H1
  clear hsz
  have i1 : (0 : Int) ≤ (i : Int) := by omega
  have i2 : (i : Int) < 8 := by omega
  have i3 : ¬ (i : Int) < 0 := by omega
  have s2 := H1.out.q2 mem2 hq
  clear h hq
  generalize hW : (w.alloc (opB k nm tx n m)).alloc (.cells [Value.int .i64 0, .int .i64 0, .slice none 0 0].toArray 30) = w1 at *
  go_enter Tryd.func41, Tryd.ntmps41
  have r0 := H1.out.r0
  have r1 := H1.out.r1
  have r2 := H1.out.r2
  have g0 := H1.out.rf 0
  have g1 := H1.out.rf 1
  have g2 := H1.out.rf 2
  have AE := hid (H1.out.setR (.int .i64 0) (.int .i64 len) (.slice none 0 0))
  clear H1 
  go_wp2
  generalize (((w1.setCell ⟨w.heap.size + 1, 0, none⟩ (.int .i64 0)).setCell ⟨w.heap.size + 1, 1, none⟩ (.int .i64 len)).setCell ⟨w.heap.size + 1, 2, none⟩ (.slice none 0 0)) = we at AE ⊢
  clear r0 r1 r2
  have r0 := AE.out.r0
  have r1 := AE.out.r1
  have r2 := AE.out.r2
  refine bodyPost_ret (v := .tuple #[resV 0 len (.slice none 0 0), .int .i64 (-1)]) (by rw [results_cell_tmp rfl]; go_simp) rfl ?_
  exact ⟨rfl, AE.out.tail⟩


set_option maxHeartbeats 1600000 in
set_option maxRecDepth 1000000 in
theorem push_many {P : Nat} {qs : List Qv} {cs : List Comp} {w : World} (h : All (blkC P (flat qs) 56 :: cs) w) (h8 : qs.length = 8) {i : Nat} {nm0 : ByteArray} {first : Int} {ao : Option Addr} {len c : Nat} {gv : Value} (hq : qs[i]? = some ⟨nm0, first, .slice ao len c, gv⟩) (hl : len = 32) (hf0 : 0 ≤ first) (hf1 : first + len ≤ 1099511627776) (k : Int) (nm tx : ByteArray) (n m : Int) :
    Calls Tryd.prog 37 #[.pointer (some ⟨P, 0, none⟩), .int .i64 i, opV k nm tx n m] w fun e w' => e = .returned (.tuple #[resV 3 0 (.slice none 0 0), .int .i64 (-1)]) ∧ All (blkC P (flat qs) 56 :: cs) w' := by
  have hi8 : i < 8 := by have := (List.getElem?_eq_some_iff.1 hq).1; omega
  have hsz : (w.alloc (opB k nm tx n m)).heap.size = w.heap.size + 1 := by simp
  have H1 := hid (((h.alloc (opB k nm tx n m)).addBlk [.int .i64 0, .int .i64 0, .slice none 0 0] 30))
  rw [hsz] at H1
  clear hsz
  have i1 : (0 : Int) ≤ (i : Int) := by omega
  have i2 : (i : Int) < 8 := by omega
  have i3 : ¬ (i : Int) < 0 := by omega
  have HQ := hid hq
  have e32 : ((len : Int) == 32) = true := by rw [hl]; rfl
  clear hl
  clear h hq
  go_enter Tryd.func37, Tryd.ntmps37
  go_wp2_with fail
  refine (end_q (i := i) (H1.out.q1 mem2 HQ.out) (H1.out.q2 mem2 HQ.out) hf0 (by simp only; omega)).mono ?_
  rintro e w1 ⟨rfl, nq, hw⟩
  have H2 := hid (show All (blkC (w.heap.size + 1) [.int .i64 0, .int .i64 0, .slice none 0 0] 30 :: blkC P (flat qs) 56 :: cs) w1 from by rw [hw]; exact H1.out.drewN nq)
  clear hw H1
  have s2 := H2.out.q2 mem2 HQ.out
  clear HQ
  have r0 := H2.out.r0
  have r1 := H2.out.r1
  have r2 := H2.out.r2
  have g0 := H2.out.rf 0
  have g1 := H2.out.rf 1
  have g2 := H2.out.rf 2
  have AE := hid (H2.out.setR (.int .i64 3) (.int .i64 0) (.slice none 0 0))
  clear H2 
  go_wp2
  generalize (((w1.setCell ⟨w.heap.size + 1, 0, none⟩ (.int .i64 3)).setCell ⟨w.heap.size + 1, 1, none⟩ (.int .i64 0)).setCell ⟨w.heap.size + 1, 2, none⟩ (.slice none 0 0)) = we at AE ⊢
  clear r0 r1 r2
  have r0 := AE.out.r0
  have r1 := AE.out.r1
  have r2 := AE.out.r2
  refine bodyPost_ret (v := .tuple #[resV 3 0 (.slice none 0 0), .int .i64 (-1)]) (by rw [results_cell_tmp rfl]; go_simp) rfl ?_
  exact ⟨rfl, AE.out.tail⟩


set_option maxHeartbeats 1600000 in
set_option maxRecDepth 1000000 in
theorem push_last {P : Nat} {qs : List Qv} {cs : List Comp} {w : World} (h : All (blkC P (flat qs) 56 :: cs) w) (h8 : qs.length = 8) {i : Nat} {nm0 : ByteArray} {first : Int} {ao : Option Addr} {len c : Nat} {gv : Value} (hq : qs[i]? = some ⟨nm0, first, .slice ao len c, gv⟩) (hl : len ≠ 32) (hm : first + len = 1099511627776) (hf0 : 0 ≤ first) (hf1 : first + len ≤ 1099511627776) (k : Int) (nm tx : ByteArray) (n m : Int) :
    Calls Tryd.prog 37 #[.pointer (some ⟨P, 0, none⟩), .int .i64 i, opV k nm tx n m] w fun e w' => e = .returned (.tuple #[resV 3 0 (.slice none 0 0), .int .i64 (-1)]) ∧ All (blkC P (flat qs) 56 :: cs) w' := by
  have hi8 : i < 8 := by have := (List.getElem?_eq_some_iff.1 hq).1; omega
  have hsz : (w.alloc (opB k nm tx n m)).heap.size = w.heap.size + 1 := by simp
  have H1 := hid (((h.alloc (opB k nm tx n m)).addBlk [.int .i64 0, .int .i64 0, .slice none 0 0] 30))
  rw [hsz] at H1
  clear hsz
  have i1 : (0 : Int) ≤ (i : Int) := by omega
  have i2 : (i : Int) < 8 := by omega
  have i3 : ¬ (i : Int) < 0 := by omega
  have HQ := hid hq
  have e32 : ((len : Int) == 32) = false := by rw [beq_eq_false_iff_ne]; omega
  have eM : ((first + (len : Int)) == 1099511627776) = true := by rw [hm]; rfl
  clear hl hm
  clear h hq
  go_enter Tryd.func37, Tryd.ntmps37
  go_wp2_with fail
  refine (end_q (i := i) (H1.out.q1 mem2 HQ.out) (H1.out.q2 mem2 HQ.out) hf0 (by simp only; omega)).mono ?_
  rintro e w1 ⟨rfl, nq, hw⟩
  have H2 := hid (show All (blkC (w.heap.size + 1) [.int .i64 0, .int .i64 0, .slice none 0 0] 30 :: blkC P (flat qs) 56 :: cs) w1 from by rw [hw]; exact H1.out.drewN nq)
  clear hw H1
  have s2 := H2.out.q2 mem2 HQ.out
  clear HQ
  have r0 := H2.out.r0
  have r1 := H2.out.r1
  have r2 := H2.out.r2
  have g0 := H2.out.rf 0
  have g1 := H2.out.rf 1
  have g2 := H2.out.rf 2
  have AE := hid (H2.out.setR (.int .i64 3) (.int .i64 0) (.slice none 0 0))
  clear H2 
  go_wp2
  generalize (((w1.setCell ⟨w.heap.size + 1, 0, none⟩ (.int .i64 3)).setCell ⟨w.heap.size + 1, 1, none⟩ (.int .i64 0)).setCell ⟨w.heap.size + 1, 2, none⟩ (.slice none 0 0)) = we at AE ⊢
  clear r0 r1 r2
  have r0 := AE.out.r0
  have r1 := AE.out.r1
  have r2 := AE.out.r2
  refine bodyPost_ret (v := .tuple #[resV 3 0 (.slice none 0 0), .int .i64 (-1)]) (by rw [results_cell_tmp rfl]; go_simp) rfl ?_
  exact ⟨rfl, AE.out.tail⟩

end Go.Proofs.YtkcepkehgkkkbabDoor

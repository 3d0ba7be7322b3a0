import Derived.Test.YtkcepkehgkkkbabDoorTrim
namespace Go.Proofs.YtkcepkehgkkkbabDoor
open Go.RowKit
set_option linter.unusedVariables false

set_option maxHeartbeats 3200000 in
set_option maxRecDepth 1000000 in
theorem trim_none {P b nb : Nat} {qs : List Qv} {cs : List Comp} {w : World} {i : Nat} {nm0 : ByteArray} {first : Int} {iv : Value} {D : DataW Unit} {items : List ByteArray} (h : All (blkC P (flat qs) 56 :: ownC 9 iv (txtV items) :: mapC b nb D :: cs) w) (h8 : qs.length = 8) (hq : qs[i]? = some ⟨nm0, first, iv, .map (some b)⟩) (hl : items.length ≤ 32) (hf0 : 0 ≤ first) (hf1 : first + items.length ≤ 1099511627776) (hnb : nb < 1152921504606846976) (k : Int) (nm tx : ByteArray) (n m : Int) (hn0 : 0 ≤ n) (hn1 : n ≤ 1099511627776) (hle : n ≤ first ∨ items = []) :
    Calls Tryd.prog 38 #[.pointer (some ⟨P, 0, none⟩), .int .i64 i, opV k nm tx n m] w fun e w' => e = .returned (.tuple #[resV 0 0 (.slice none 0 0), .int .i64 (-1)]) ∧ All (blkC P (flat qs) 56 :: ownC 9 iv (txtV items) :: mapC b nb D :: cs) w' := by
  have hi8 : i < 8 := by have := (List.getElem?_eq_some_iff.1 hq).1; omega
  obtain ⟨ao, c, eo⟩ := owns_form (h.2.2.1.2.1 : w.ownsRow 0 9 1 iv (txtV items).length (txtV items))
  rw [txtV_length] at eo
  subst eo
  have hsz : (w.alloc (opB k nm tx n m)).heap.size = w.heap.size + 1 := by simp
  have H1 := hid (((h.alloc (opB k nm tx n m)).addBlk [.int .i64 0, .int .i64 0, .slice none 0 0] 30))
  rw [hsz] at H1
  clear hsz
  have HO := heap_alloc_new w (opB k nm tx n m)
  have o3 : ((w.alloc (opB k nm tx n m)).alloc (.cells [Value.int .i64 0, .int .i64 0, .slice none 0 0].toArray 30)).cell? ⟨w.heap.size, 3, none⟩ = some (.int .i64 n) := cell_under (ba _ _) (by simp) (by rw [cell_at HO]; rfl)
  have HQ := hid hq
  have i1 : (0 : Int) ≤ (i : Int) := by omega
  have i2 : (i : Int) < 8 := by omega
  have i3 : ¬ (i : Int) < 0 := by omega
  have hmm : min n (first + (items.length : Int)) ≤ first := by
    rcases hle with hle | rfl
    · omega
    · simp; omega
  have hml : -1099511627776 ≤ min n (first + (items.length : Int)) := by omega
  clear hle
  clear h hq HO
  generalize hW : (w.alloc (opB k nm tx n m)).alloc (.cells [Value.int .i64 0, .int .i64 0, .slice none 0 0].toArray 30) = w1 at H1 o3
  have o3d : w1.drew.cell? ⟨w.heap.size, 3, none⟩ = some (.int .i64 n) := o3
  have E : Hid (Calls Tryd.prog 51 #[.pointer (some ⟨P, i * 4, none⟩)] w1.drew fun e w' => e = .returned (.int .i64 (first + (items.length : Int))) ∧ Hid (All (blkC (w.heap.size + 1) [.int .i64 0, .int .i64 0, .slice none 0 0] 30 :: blkC P (flat qs) 56 :: ownC 9 (.slice ao items.length c) (txtV items) :: mapC b nb D :: cs) w') ∧ w'.cell? ⟨w.heap.size, 3, none⟩ = some (.int .i64 n)) := hid ((end_q (w := w1.drew) (i := i) (P := P) (H1.out.drew.q1 mem2 HQ.out) (H1.out.drew.q2 mem2 HQ.out) hf0 (by simp only; omega)).mono fun e w' ⟨h1, q, h2⟩ => ⟨h1, by rw [h2]; exact H1.out.drew.drewN q, by rw [h2]; exact o3⟩)
  go_enter Tryd.func38, Tryd.ntmps38
  go_wp2
  go_region_law (go_simp; go_at_call 51; refine E.out.mono ?_; rintro e w2 ⟨rfl, H2, o3w⟩)
  all_goals (
    clear H1 E o3 o3d o3w hW
    have s1 := H2.out.q1 mem2 HQ.out
    simp only at s1
    generalize min n (first + (items.length : Int)) = below at *
    have em : decide (below - first ≤ 0) = true := by simp; omega
    have r0 := H2.out.r0
    have r1 := H2.out.r1
    have r2 := H2.out.r2
    have g0 := H2.out.rf 0
    have g1 := H2.out.rf 1
    have g2 := H2.out.rf 2
    have AE := hid (H2.out.setR (.int .i64 0) (.int .i64 0) (.slice none 0 0))
    clear H2 
    go_wp2
    generalize (((w2.setCell ⟨w.heap.size + 1, 0, none⟩ (.int .i64 0)).setCell ⟨w.heap.size + 1, 1, none⟩ (.int .i64 0)).setCell ⟨w.heap.size + 1, 2, none⟩ (.slice none 0 0)) = we at AE ⊢
    clear r0 r1 r2
    have r0 := AE.out.r0
    have r1 := AE.out.r1
    have r2 := AE.out.r2
    refine bodyPost_ret (v := .tuple #[resV 0 0 (.slice none 0 0), .int .i64 (-1)]) (by rw [results_cell_tmp (fn := Tryd.f38) (p := 6) (u := 7) (ty := 30) rfl]; go_simp) rfl ?_
    exact ⟨rfl, AE.out.tail⟩)

set_option maxHeartbeats 3200000 in
set_option maxRecDepth 1000000 in
theorem trim_some {P b nb : Nat} {qs : List Qv} {cs : List Comp} {w : World} {i : Nat} {nm0 : ByteArray} {first : Int} {iv : Value} {D : DataW Unit} {items : List ByteArray} (h : All (blkC P (flat qs) 56 :: ownC 9 iv (txtV items) :: mapC b nb D :: cs) w) (h8 : qs.length = 8) (hq : qs[i]? = some ⟨nm0, first, iv, .map (some b)⟩) (hl : items.length ≤ 32) (hf0 : 0 ≤ first) (hf1 : first + items.length ≤ 1099511627776) (hnb : nb < 1152921504606846976) (k : Int) (nm tx : ByteArray) (n m : Int) (hn0 : 0 ≤ n) (hn1 : n ≤ 1099511627776) (hlt : first < n) (hne : 0 < items.length) :
    Calls Tryd.prog 38 #[.pointer (some ⟨P, 0, none⟩), .int .i64 i, opV k nm tx n m] w fun e w' => ∃ v' D' d, e = .returned (.tuple #[resV 0 (d : Nat) (.slice none 0 0), .int .i64 i]) ∧ first + (d : Int) = min n (first + items.length) ∧ 0 < d ∧ d ≤ items.length ∧ TrimR D (first + (d : Int)) (fun _ => false) D' ∧ All (blkC P (flat (qs.set i ⟨nm0, first + (d : Int), v', .map (some b)⟩)) 56 :: ownC 9 v' (txtV (items.drop d)) :: mapC b nb D' :: cs) w' := by
  have hi8 : i < 8 := by have := (List.getElem?_eq_some_iff.1 hq).1; omega
  obtain ⟨ao, c, eo⟩ := owns_form (h.2.2.1.2.1 : w.ownsRow 0 9 1 iv (txtV items).length (txtV items))
  rw [txtV_length] at eo
  subst eo
  have hsz : (w.alloc (opB k nm tx n m)).heap.size = w.heap.size + 1 := by simp
  have H1 := hid (((h.alloc (opB k nm tx n m)).addBlk [.int .i64 0, .int .i64 0, .slice none 0 0] 30))
  rw [hsz] at H1
  clear hsz
  have HO := heap_alloc_new w (opB k nm tx n m)
  have o3 : ((w.alloc (opB k nm tx n m)).alloc (.cells [Value.int .i64 0, .int .i64 0, .slice none 0 0].toArray 30)).cell? ⟨w.heap.size, 3, none⟩ = some (.int .i64 n) := cell_under (ba _ _) (by simp) (by rw [cell_at HO]; rfl)
  have HQ := hid hq
  have i1 : (0 : Int) ≤ (i : Int) := by omega
  have i2 : (i : Int) < 8 := by omega
  have i3 : ¬ (i : Int) < 0 := by omega
  obtain ⟨d, hd⟩ : ∃ d : Nat, Hid (min n (first + (items.length : Int)) = first + (d : Int) ∧ 0 < d ∧ d ≤ items.length) := ⟨(min n (first + (items.length : Int)) - first).toNat, hid ⟨by omega, by omega, by omega⟩⟩
  clear h hq HO
  generalize hW : (w.alloc (opB k nm tx n m)).alloc (.cells [Value.int .i64 0, .int .i64 0, .slice none 0 0].toArray 30) = w1 at H1 o3
  have o3d : w1.drew.cell? ⟨w.heap.size, 3, none⟩ = some (.int .i64 n) := o3
  have E : Hid (Calls Tryd.prog 51 #[.pointer (some ⟨P, i * 4, none⟩)] w1.drew fun e w' => e = .returned (.int .i64 (first + (items.length : Int))) ∧ Hid (All (blkC (w.heap.size + 1) [.int .i64 0, .int .i64 0, .slice none 0 0] 30 :: blkC P (flat qs) 56 :: ownC 9 (.slice ao items.length c) (txtV items) :: mapC b nb D :: cs) w') ∧ w'.cell? ⟨w.heap.size, 3, none⟩ = some (.int .i64 n)) := hid ((end_q (w := w1.drew) (i := i) (P := P) (H1.out.drew.q1 mem2 HQ.out) (H1.out.drew.q2 mem2 HQ.out) hf0 (by simp only; omega)).mono fun e w' ⟨h1, q, h2⟩ => ⟨h1, by rw [h2]; exact H1.out.drew.drewN q, by rw [h2]; exact o3⟩)
  go_enter Tryd.func38, Tryd.ntmps38
  go_wp2
  go_region_law (go_simp; go_at_call 51; refine E.out.mono ?_; rintro e w2 ⟨rfl, H2, o3w⟩)
  all_goals (
    clear H1 E o3 o3d o3w hW
    have s1 := H2.out.q1 mem2 HQ.out
    simp only at s1
    rw [hd.out.1]
    obtain ⟨below, hbel⟩ : ∃ below : Int, Hid (below = first + (d : Int)) := ⟨_, hid rfl⟩
    rw [← hbel.out]
    have hd2 := hd.out.2.2
    have hd3 := hd.out.2.1
    have em : decide (below - first ≤ 0) = false := by have := hbel.out; simp; omega
    have b1 : 0 ≤ below := by have := hbel.out; omega
    have b2 : below ≤ 1099511627776 := by have := hbel.out; omega
    have hsub : below - first = (d : Int) := by have := hbel.out; omega
    have A2 := hid (H2.out.perm (ds := ownC 9 (.slice ao items.length c) (txtV items) :: mapC b nb D :: blkC P (flat qs) 56 :: blkC (w.heap.size + 1) [.int .i64 0, .int .i64 0, .slice none 0 0] 30 :: cs) (by
      have := List.perm_append_comm (l₁ := [blkC (w.heap.size + 1) [.int .i64 0, .int .i64 0, .slice none 0 0] 30, blkC P (flat qs) 56]) (l₂ := [ownC 9 (.slice ao items.length c) (txtV items), mapC b nb D])
      exact (this.append_right cs).trans (List.Perm.cons _ (List.Perm.cons _ (List.Perm.swap _ _ _)))))
    clear H2
    go_wp2_with fail
    refine (trim_q A2.out HQ.out hnb hf0 hf1 hd3 hd2 hbel.out).mono ?_
    rintro e w5 ⟨rfl, v', D', T5, A5⟩
    have A6 := hid (A5.perm (ds := blkC (w.heap.size + 1) [.int .i64 0, .int .i64 0, .slice none 0 0] 30 :: blkC P (flat (qs.set i ⟨nm0, below, v', .map (some b)⟩)) 56 :: ownC 9 v' (txtV (items.drop d)) :: mapC b nb D' :: cs) (by
      have := List.perm_append_comm (l₁ := [ownC 9 v' (txtV (items.drop d)), mapC b nb D']) (l₂ := [blkC P (flat (qs.set i ⟨nm0, below, v', .map (some b)⟩)) 56, blkC (w.heap.size + 1) [.int .i64 0, .int .i64 0, .slice none 0 0] 30])
      exact (this.append_right cs).trans (List.Perm.swap _ _ _)))
    have T5 := hid T5
    clear A5 A2 s1
    have r0 := A6.out.r0
    have r1 := A6.out.r1
    have r2 := A6.out.r2
    have g0 := A6.out.rf 0
    have g1 := A6.out.rf 1
    have g2 := A6.out.rf 2
    have AE := hid (A6.out.setR (.int .i64 0) (.int .i64 (d : Int)) (.slice none 0 0))
    clear A6 
    go_wp2
    generalize (((w5.setCell ⟨w.heap.size + 1, 0, none⟩ (.int .i64 0)).setCell ⟨w.heap.size + 1, 1, none⟩ (.int .i64 (d : Int))).setCell ⟨w.heap.size + 1, 2, none⟩ (.slice none 0 0)) = we at AE ⊢
    clear r0 r1 r2
    have r0 := AE.out.r0
    have r1 := AE.out.r1
    have r2 := AE.out.r2
    refine bodyPost_ret (v := .tuple #[resV 0 (d : Int) (.slice none 0 0), .int .i64 i]) (by rw [results_cell_tmp (fn := Tryd.f38) (p := 6) (u := 7) (ty := 30) rfl]; go_simp) rfl ?_
    rw [hbel.out] at T5 AE
    exact ⟨v', D', d, rfl, hd.out.1.symm, hd3, hd2, T5.out, AE.out.tail⟩)

end Go.Proofs.YtkcepkehgkkkbabDoor

import Derived.Test.YtkaigmoeagjjgaaWt7
namespace Go.Proofs.Ytkaigmoeagjjgaa
open Go.RowKit
open Go.Maps (Keyed)
set_option linter.unusedVariables false

theorem All.pullW {c : Comp} {cs ds : List Comp} {w : World} (h : All (cs ++ c :: ds) w) : All (c :: (cs ++ ds)) w := h.perm List.perm_middle
set_option maxRecDepth 100000 in
set_option maxHeartbeats 4000000 in
theorem end_no {w : World} {K B n : Nat} {oo : Option Addr} {oc : Nat} {D : DataW Unit} {S : List Sp} {cs : List Comp} {a m s : Int} (hA : All (watchL K (.slice oo S.length oc) B n D S cs) w) (hs : Says D S) (ha : okI a) (hm : okI m) (ho : opn S a m = none) : Calls Try.prog 41 #[.pointer (some ⟨K, 0, none⟩), .agg #[.int .i64 a, .int .i64 m], .int .i64 s] w fun e w' => e = .returned (.tuple #[]) ∧ All (watchL K (.slice oo S.length oc) B n D S cs) w' := by
  have A1 := hid (hA.alloc (.cells #[.int .i64 a, .int .i64 m] 78))
  have hb : (w.alloc (.cells #[.int .i64 a, .int .i64 m] 78)).heap[K]? = some (.cells #[.slice oo S.length oc, .map (some B)] 60 (0, 0)) := A1.out.1.2.1
  have c1 : (w.alloc (.cells #[.int .i64 a, .int .i64 m] 78)).cell? ⟨K, 1, none⟩ = some (.map (some B)) := by rw [cell_at hb]; rfl
  have pb := World.alloc_heap_new w (.cells #[.int .i64 a, .int .i64 m] 78)
  have p0 : (w.alloc (.cells #[.int .i64 a, .int .i64 m] 78)).cell? ⟨w.heap.size, 0, none⟩ = some (.int .i64 a) := by rw [cell_at pb]; rfl
  have p1 : (w.alloc (.cells #[.int .i64 a, .int .i64 m] 78)).cell? ⟨w.heap.size, 1, none⟩ = some (.int .i64 m) := by rw [cell_at pb]; rfl
  have hl : (Instr.lookup 57 (.map (some B)) (.agg #[.int .i64 a, .int .i64 m]) true).run Try.prog (w.alloc (.cells #[.int .i64 a, .int .i64 m] 78)).drew = .ok (.tuple #[.int .i64 (atI D a m), .bool false]) (w.alloc (.cells #[.int .i64 a, .int .i64 m] 78)).drew := by
    have := look78 (w := (w.alloc (.cells #[.int .i64 a, .int .i64 m] 78)).drew) (show World.ownsMap _ Try.prog 78 rE B n D from A1.out.drew.third.1.2.1) ha hm
    rw [(hs.says a m ha hm).1 ho] at this
    exact this
  have hK : K < (w.alloc (.cells #[.int .i64 a, .int .i64 m] 78)).heap.size := A1.out.1.2.2 K (by simp [blkC])
  clear hA hb pb hs ha hm ho
  go_enter Try.func41, Try.ntmps41
  go_upto_region 1 with fail
  generalize w.alloc (.cells #[.int .i64 a, .int .i64 m] 78) = w1 at A1 c1 p0 p1 hl hK ⊢
  generalize w.heap.size = P at p0 p1 ⊢
  go_region
  go_wp2
  refine bodyPost_ret (results_none (fn := Try.f41) rfl _ _ _) rfl ?_
  exact ⟨rfl, A1.out.drew⟩

set_option maxRecDepth 100000 in
set_option maxHeartbeats 4000000 in
theorem end_yes {w : World} {K B n : Nat} {oo : Option Addr} {oc : Nat} {D : DataW Unit} {S : List Sp} {cs : List Comp} {a m s : Int} (hA : All (watchL K (.slice oo S.length oc) B n D S cs) w) (hs : Says D S) (ha : okI a) (hm : okI m) {i : Nat} {x : Sp} (ho : opn S a m = some i) (hx : S[i]? = some x) (hb0 : 0 ≤ x.b) (hb1 : x.b ≤ s) (hs1 : s ≤ 1048577) (hS : S.length ≤ 1048577) : Calls Try.prog 41 #[.pointer (some ⟨K, 0, none⟩), .agg #[.int .i64 a, .int .i64 m], .int .i64 s] w fun e w' => e = .returned (.tuple #[]) ∧ ∃ D2, Says D2 (S.set i { x with t := s - x.b, d := true }) ∧ All (watchL K (.slice oo S.length oc) B n D2 (S.set i { x with t := s - x.b, d := true }) cs) w' := by
  have A1 : Hid (All (blkC w.heap.size [.int .i64 a, .int .i64 m] 78 :: watchL K (.slice oo S.length oc) B n D S cs) (w.alloc (.cells #[.int .i64 a, .int .i64 m] 78))) := hid (hA.addBlk [.int .i64 a, .int .i64 m] 78)
  have hb : (w.alloc (.cells #[.int .i64 a, .int .i64 m] 78)).heap[K]? = some (.cells #[.slice oo S.length oc, .map (some B)] 60 (0, 0)) := A1.out.tail.1.2.1
  have c1 : (w.alloc (.cells #[.int .i64 a, .int .i64 m] 78)).cell? ⟨K, 1, none⟩ = some (.map (some B)) := by rw [cell_at hb]; rfl
  have c0 : (w.alloc (.cells #[.int .i64 a, .int .i64 m] 78)).cell? ⟨K, 0, none⟩ = some (.slice oo S.length oc) := by rw [cell_at hb]; rfl
  have pb := World.alloc_heap_new w (.cells #[.int .i64 a, .int .i64 m] 78)
  have p0 : (w.alloc (.cells #[.int .i64 a, .int .i64 m] 78)).cell? ⟨w.heap.size, 0, none⟩ = some (.int .i64 a) := by rw [cell_at pb]; rfl
  have p1 : (w.alloc (.cells #[.int .i64 a, .int .i64 m] 78)).cell? ⟨w.heap.size, 1, none⟩ = some (.int .i64 m) := by rw [cell_at pb]; rfl
  have hl : (Instr.lookup 57 (.map (some B)) (.agg #[.int .i64 a, .int .i64 m]) true).run Try.prog (w.alloc (.cells #[.int .i64 a, .int .i64 m] 78)).drew = .ok (.tuple #[.int .i64 (i : Int), .bool true]) (w.alloc (.cells #[.int .i64 a, .int .i64 m] 78)).drew := by
    have := look78 (w := (w.alloc (.cells #[.int .i64 a, .int .i64 m] 78)).drew) (show World.ownsMap _ Try.prog 78 rE B n D from A1.out.drew.tail.third.1.2.1) ha hm
    rw [((hs.says a m ha hm).2 i ho).1, hs.atI ha hm ho] at this
    exact this
  have hK : K < (w.alloc (.cells #[.int .i64 a, .int .i64 m] 78)).heap.size := A1.out.tail.1.2.2 K (by simp [blkC])
  have SD := hid (hs.end (t := s - x.b) ha hm ho hx)
  have hil := (List.getElem?_eq_some_iff.1 hx).1
  have HX := hid hx
  have KK := hid (key78 ha hm)
  clear hA hb pb hs ha hm ho hx
  go_enter Try.func41, Try.ntmps41
  go_upto_region 1 with fail
  generalize w.alloc (.cells #[.int .i64 a, .int .i64 m] 78) = w1 at A1 c1 c0 p0 p1 hl hK ⊢
  generalize w.heap.size = P at A1 p0 p1 ⊢
  go_region
  clear hl
  go_upto_region 3 with fail
  have A2 := hid A1.out.drew
  replace c0 : w1.drew.cell? ⟨K, 0, none⟩ = some (.slice oo S.length oc) := c0
  replace c1 : w1.drew.cell? ⟨K, 1, none⟩ = some (.map (some B)) := c1
  replace p0 : w1.drew.cell? ⟨P, 0, none⟩ = some (.int .i64 a) := p0
  replace p1 : w1.drew.cell? ⟨P, 1, none⟩ = some (.int .i64 m) := p1
  replace hK : K < w1.drew.heap.size := hK
  clear A1
  generalize w1.drew = w2 at A2 c1 c0 p0 p1 hK ⊢
  obtain ⟨g, rfl, hg, s0, s1, s2, cf⟩ := wt_at (show w2.ownsRow 0 91 3 (.slice oo S.length oc) S.length (flatW S) from A2.out.third.1.2.1) HX.out
  obtain ⟨xa, xn, xb, xt, xd⟩ := x
  change w2.cell? ⟨g, i * 3, none⟩ = some (.int .i64 xb) at s0
  change w2.cell? ⟨g, i * 3 + 1, none⟩ = some (.int .i64 xt) at s1
  change 0 ≤ xb at hb0
  change xb ≤ s at hb1
  change Hid (Says _ (S.set i ⟨xa, xn, xb, s - xb, true⟩)) at SD
  have hfs := hid (flatW_set (s - xb) true HX.out)
  change Hid (flatW (S.set i ⟨xa, xn, xb, s - xb, true⟩) = _) at hfs
  have A3 := hid (A2.out.third.setRow1 (k := i * 3 + 1) (.int .i64 (s - xb)))
  have A4 := hid (A3.out.setRow1 (k := i * 3 + 2) (.bool true))
  have d2 : (w2.setCell ⟨g, i * 3 + 1, none⟩ (.int .i64 (s - xb))).cell? ⟨g, i * 3 + 2, none⟩ = some (.bool xd) ∧ (w2.setCell ⟨g, i * 3 + 1, none⟩ (.int .i64 (s - xb))).frozen? ⟨g, i * 3 + 2, none⟩ = false := by
    obtain ⟨g', e, _, h3, h4⟩ := row_cell (k := i * 3 + 2) (u := .bool xd) (show (w2.setCell ⟨g, i * 3 + 1, none⟩ (.int .i64 (s - xb))).ownsRow 0 91 3 (.slice (some ⟨g, 0, none⟩) S.length oc) S.length _ from A3.out.1.2.1) (by rw [List.getElem?_set_ne (by omega), flatW_get HX.out (by omega)]; rfl)
    simp only [Option.some.injEq, Addr.mk.injEq, and_true] at e
    subst e
    exact ⟨h3, h4⟩
  have d21 := d2.1
  have d22 := d2.2
  have f1 := cf (i * 3 + 1)
  have hbK := A4.out.tail.tail.1.2.1
  have hbP := A4.out.tail.1.2.1
  replace hbK : ((w2.setCell ⟨g, i * 3 + 1, none⟩ (.int .i64 (s - xb))).setCell ⟨g, i * 3 + 2, none⟩ (.bool true)).heap[K]? = some (.cells #[.slice (some ⟨g, 0, none⟩) S.length oc, .map (some B)] 60 (0, 0)) := hbK
  replace hbP : ((w2.setCell ⟨g, i * 3 + 1, none⟩ (.int .i64 (s - xb))).setCell ⟨g, i * 3 + 2, none⟩ (.bool true)).heap[P]? = some (.cells #[.int .i64 a, .int .i64 m] 78 (0, 0)) := hbP
  clear cf s2 d2 c1 p0 p1 hK A2 A3
  go_upto_region 5 with fail
  generalize ((w2.setCell ⟨g, i * 3 + 1, none⟩ (.int .i64 (s - xb))).setCell ⟨g, i * 3 + 2, none⟩ (.bool true)) = w4 at A4 hbK hbP ⊢
  have k1 : w4.cell? ⟨K, 1, none⟩ = some (.map (some B)) := by rw [cell_at hbK]; rfl
  have p0 : w4.cell? ⟨P, 0, none⟩ = some (.int .i64 a) := by rw [cell_at hbP]; rfl
  have p1 : w4.cell? ⟨P, 1, none⟩ = some (.int .i64 m) := by rw [cell_at hbP]; rfl
  have hK : K < w4.heap.size := A4.out.tail.tail.1.2.2 K (by simp [blkC])
  have A5 := A4.out.drew.pullW (cs := [_, _, _])
  obtain ⟨w5, hdel, ho5, ht5⟩ := World.ownsMap.drop (e := 3) (show w4.drew.ownsMap Try.prog 78 rE B n D from A5.1.2.1) law78 Try.und57 KK.out 0
  have A6 := hid ((A5.map_turn ht5.grown ho5).perm (List.Perm.append_right cs (List.reverse_perm [_, _, _, _]).symm)).swap.tail
  clear A5 ho5 ht5 A4 hbK hbP KK
  go_region
  go_wp2
  go_end0
  exact ⟨rfl, _, SD.out, by unfold watchL; rw [List.length_set, hfs.out]; exact A6.out⟩
end Go.Proofs.Ytkaigmoeagjjgaa

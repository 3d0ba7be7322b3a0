import Derived.Test.YtagdpfghooogfaaXPlace
import Derived.Deep.DeepCutAuto
namespace Go.Proofs.Ytagdpfghooogfaa
open Go.RowKit
set_option linter.unusedVariables false

theorem res33 {tmps : Array Value} {w : World} {b : Nat} {n a c k : Int} {s : Value} (ht : tmps.getD 2 undef = .pointer (some ⟨b, 0, none⟩)) (h : w.heap[b]? = some (.cells #[.int .i64 n, .int .i64 a, .int .i64 c, .int .i64 k, s] 39 (0, 0))) : (results Try.f33 tmps).run Try.prog w = .ok (rowV n a c k s) w := by
  have hp' : tmps[2]?.getD undef = .pointer (some ⟨b, 0, none⟩) := by simpa using ht
  have hres : Try.f33.results = #[.cell 2 39] := rfl
  have x0 : w.cell? ⟨b, 0, none⟩ = some (.int .i64 n) := by rw [cell_at h]; rfl
  have x1 : w.cell? ⟨b, 1, none⟩ = some (.int .i64 a) := by rw [cell_at h]; rfl
  have x2 : w.cell? ⟨b, 2, none⟩ = some (.int .i64 c) := by rw [cell_at h]; rfl
  have x3 : w.cell? ⟨b, 3, none⟩ = some (.int .i64 k) := by rw [cell_at h]; rfl
  have x4 : w.cell? ⟨b, 4, none⟩ = some s := by rw [cell_at h]; rfl
  simp only [results, hres]
  go_simp

theorem res34 {tmps : Array Value} {w : World} {b : Nat} {n a c k : Int} {s v : Value} (ht : tmps.getD 4 undef = .pointer (some ⟨b, 0, none⟩)) (hv : tmps.getD 5 undef = v) (h : w.heap[b]? = some (.cells #[.int .i64 n, .int .i64 a, .int .i64 c, .int .i64 k, s] 39 (0, 0))) : (results Try.f34 tmps).run Try.prog w = .ok (.tuple #[rowV n a c k s, v]) w := by
  have hp' : tmps[4]?.getD undef = .pointer (some ⟨b, 0, none⟩) := by simpa using ht
  have hv' : tmps[5]?.getD undef = v := by simpa using hv
  have hres : Try.f34.results = #[.cell 4 39, .tmp 5] := rfl
  have x0 : w.cell? ⟨b, 0, none⟩ = some (.int .i64 n) := by rw [cell_at h]; rfl
  have x1 : w.cell? ⟨b, 1, none⟩ = some (.int .i64 a) := by rw [cell_at h]; rfl
  have x2 : w.cell? ⟨b, 2, none⟩ = some (.int .i64 c) := by rw [cell_at h]; rfl
  have x3 : w.cell? ⟨b, 3, none⟩ = some (.int .i64 k) := by rw [cell_at h]; rfl
  have x4 : w.cell? ⟨b, 4, none⟩ = some s := by rw [cell_at h]; rfl
  simp only [results, hres]
  go_simp

set_option maxHeartbeats 1600000 in
set_option maxRecDepth 1000000 in
theorem xcopied_any {cs : List Comp} {w : World} (hA : All cs w) (n a c k : Int) {s : Value} {l : List ByteArray} (h : Txts w s l) (hl : l.length ≤ 1000) : Calls Try.prog 33 #[rowV n a c k s] w fun e w' => ∃ ao c', e = .returned (rowV n a c k (.slice ao l.length c')) ∧ All (ownC 9 (.slice ao l.length c') (cellsT l) :: cs) w' := by
  obtain ⟨ao, cp, rfl⟩ := h.form
  have HT := hid h
  have HA := hid (((hA.addBlk [.int .i64 n, .int .i64 a, .int .i64 c, .int .i64 k, .slice ao l.length cp] 39).addBlk [.int .i64 0, .int .i64 0, .int .i64 0, .int .i64 0, .slice none 0 0] 39))
  simp only [World.size_alloc] at HA
  clear h hA
  obtain ⟨i0, hi, hz0, hz1, hz2⟩ := info_parts Try.info9
  have WE : Hid (∃ W0, W0 = ((w.alloc (.cells #[.int .i64 n, .int .i64 a, .int .i64 c, .int .i64 k, .slice ao l.length cp] 39)).alloc (.cells #[.int .i64 0, .int .i64 0, .int .i64 0, .int .i64 0, .slice none 0 0] 39))) := hid ⟨_, rfl⟩
  obtain ⟨W0, hW0⟩ := WE.out
  have HA0 : Hid (All (blkC (w.heap.size + 1) [.int .i64 0, .int .i64 0, .int .i64 0, .int .i64 0, .slice none 0 0] 39 :: blkC w.heap.size [.int .i64 n, .int .i64 a, .int .i64 c, .int .i64 k, .slice ao l.length cp] 39 :: cs) W0) := hid (by rw [hW0]; exact HA.out)
  have HT0 : Txts W0 (.slice ao l.length cp) l := by rw [hW0]; exact (HT.out.alloc _).alloc _
  have AE := hid (HA0.out.alloc (.cells #[] 9))
  have h0 : (W0.alloc (.cells #[] 9)).ownsRow W0.heap.size 9 1 (.slice (some ⟨W0.heap.size, 0, none⟩) 0 0) 0 [] := World.ownsRow_made W0 #[] 0 (Nat.le_refl _) (by unfold maxLen; omega) rfl
  have erx : W0.heap[w.heap.size]? = some (.cells #[.int .i64 n, .int .i64 a, .int .i64 c, .int .i64 k, .slice ao l.length cp] 39 (0, 0)) := HA0.out.tail.1.2.1
  have x0 : W0.cell? ⟨w.heap.size, 0, none⟩ = some (.int .i64 n) := by rw [cell_at erx]; rfl
  have x1 : W0.cell? ⟨w.heap.size, 1, none⟩ = some (.int .i64 a) := by rw [cell_at erx]; rfl
  have x2 : W0.cell? ⟨w.heap.size, 2, none⟩ = some (.int .i64 c) := by rw [cell_at erx]; rfl
  have x3 : W0.cell? ⟨w.heap.size, 3, none⟩ = some (.int .i64 k) := by rw [cell_at erx]; rfl
  have x4 : W0.cell? ⟨w.heap.size, 4, none⟩ = some (.slice ao l.length cp) := by rw [cell_at erx]; rfl
  have fx4 : W0.frozen? ⟨w.heap.size, 4, none⟩ = false := free_at erx 4
  clear erx
  have lx : w.heap.size < W0.heap.size := World.block_lt_of_cell? W0 _ x0
  go_enter Try.func33, Try.ntmps33
  go_upto_region 1 with fail
  rw [← hW0]
  clear hW0 WE HA HT
  have FIN : Hid (∀ w2 so sc, w2.ownsRow W0.heap.size 9 1 (.slice so l.length sc) l.length (cellsT l) → Below W0.heap.size W0 w2 → w2.cell? ⟨w.heap.size, 0, none⟩ = some (.int .i64 n) ∧ w2.cell? ⟨w.heap.size, 1, none⟩ = some (.int .i64 a) ∧ w2.cell? ⟨w.heap.size, 2, none⟩ = some (.int .i64 c) ∧ w2.cell? ⟨w.heap.size, 3, none⟩ = some (.int .i64 k) ∧ w2.cell? ⟨w.heap.size, 4, none⟩ = some (.slice ao l.length cp) ∧ w2.frozen? ⟨w.heap.size, 4, none⟩ = false ∧ (∀ j, w2.frozen? ⟨w.heap.size + 1, j, none⟩ = false) ∧ w2.cell? ⟨w.heap.size + 1, 0, none⟩ = some (.int .i64 0) ∧ w2.cell? ⟨w.heap.size + 1, 1, none⟩ = some (.int .i64 0) ∧ w2.cell? ⟨w.heap.size + 1, 2, none⟩ = some (.int .i64 0) ∧ w2.cell? ⟨w.heap.size + 1, 3, none⟩ = some (.int .i64 0) ∧ w2.cell? ⟨w.heap.size + 1, 4, none⟩ = some (.slice none 0 0) ∧
      Hid (∀ W, W = ((((((w2.setCell ⟨w.heap.size, 4, none⟩ (.slice so l.length sc)).setCell ⟨w.heap.size + 1, 0, none⟩ (.int .i64 n)).setCell ⟨w.heap.size + 1, 1, none⟩ (.int .i64 a)).setCell ⟨w.heap.size + 1, 2, none⟩ (.int .i64 c)).setCell ⟨w.heap.size + 1, 3, none⟩ (.int .i64 k)).setCell ⟨w.heap.size + 1, 4, none⟩ (.slice so l.length sc)) → W.heap[w.heap.size + 1]? = some (.cells #[.int .i64 n, .int .i64 a, .int .i64 c, .int .i64 k, .slice so l.length sc] 39 (0, 0)) ∧ All (ownC 9 (.slice so l.length sc) (cellsT l) :: cs) W)) := hid (by
    intro w2 so sc hO hB
    have A1 := HA0.out.addOwn hB (by rw [cellsT_length]; exact hO)
    have ex : w2.heap[w.heap.size]? = some (.cells #[.int .i64 n, .int .i64 a, .int .i64 c, .int .i64 k, .slice ao l.length cp] 39 (0, 0)) := A1.tail.tail.1.2.1
    have er : w2.heap[w.heap.size + 1]? = some (.cells #[.int .i64 0, .int .i64 0, .int .i64 0, .int .i64 0, .slice none 0 0] 39 (0, 0)) := A1.tail.1.2.1
    refine ⟨by rw [cell_at ex]; rfl, by rw [cell_at ex]; rfl, by rw [cell_at ex]; rfl, by rw [cell_at ex]; rfl, by rw [cell_at ex]; rfl, free_at ex 4, fun j => free_at er j, by rw [cell_at er]; rfl, by rw [cell_at er]; rfl, by rw [cell_at er]; rfl, by rw [cell_at er]; rfl, by rw [cell_at er]; rfl, ?_⟩
    rintro W rfl
    have A2 := ((((((A1.rev3.setBlk 4 (.slice so l.length sc)).swap.setBlk 0 (.int .i64 n)).setBlk 1 (.int .i64 a)).setBlk 2 (.int .i64 c)).setBlk 3 (.int .i64 k)).setBlk 4 (.slice so l.length sc))
    exact ⟨A2.1.2.1, A2.tail.tail⟩)
  have hx' : (l = [] ∧ ao = none) ∨ ∃ q, ao = some q ∧ ∀ j u, (cellsT l)[j]? = some u → (W0.alloc (.cells #[] 9)).cell? (q.add j) = some u := by
    obtain ⟨ao2, c2, e2, hc, hx⟩ := HT0.alloc (.cells #[] 9)
    simp only [Value.slice.injEq] at e2
    obtain ⟨rfl, _, _⟩ := e2
    rcases hx with rfl | ⟨g, o, rfl, hg, hcell⟩
    · cases ao with
      | none => exact .inl ⟨rfl, rfl⟩
      | some q => exact .inr ⟨q, rfl, fun j u hu => by simp [cellsT] at hu⟩
    · refine .inr ⟨_, rfl, fun j u hu => ?_⟩
      simp only [cellsT, List.getElem?_map] at hu
      obtain ⟨x, hx, rfl⟩ := Option.map_eq_some_iff.1 hu
      obtain ⟨hj, rfl⟩ := List.getElem?_eq_some_iff.1 hx
      rw [Addr.add_lit]
      exact hcell j hj
  have HR0 := HA0
  clear HA0 HT0
  rcases hx' with ⟨rfl, rfl⟩ | ⟨q, rfl, hnews⟩
  · have h00 : (W0.alloc (.cells #[] 9)).ownsRow W0.heap.size 9 1 (.slice (some ⟨W0.heap.size, 0, none⟩) 0 0) 0 (cellsT []) := h0
    simp only [List.length_nil] at x4 ⊢
    clear FIN h00
    have err : W0.heap[w.heap.size + 1]? = some (.cells #[.int .i64 0, .int .i64 0, .int .i64 0, .int .i64 0, .slice none 0 0] 39 (0, 0)) := HR0.out.1.2.1
    have r0 : W0.cell? ⟨w.heap.size + 1, 0, none⟩ = some (.int .i64 0) := by rw [cell_at err]; rfl
    have r1 : W0.cell? ⟨w.heap.size + 1, 1, none⟩ = some (.int .i64 0) := by rw [cell_at err]; rfl
    have r2 : W0.cell? ⟨w.heap.size + 1, 2, none⟩ = some (.int .i64 0) := by rw [cell_at err]; rfl
    have r3 : W0.cell? ⟨w.heap.size + 1, 3, none⟩ = some (.int .i64 0) := by rw [cell_at err]; rfl
    have r4 : W0.cell? ⟨w.heap.size + 1, 4, none⟩ = some (.slice none 0 0) := by rw [cell_at err]; rfl
    have fr0 : W0.frozen? ⟨w.heap.size + 1, 0, none⟩ = false := free_at err 0
    have fr1 : W0.frozen? ⟨w.heap.size + 1, 1, none⟩ = false := free_at err 1
    have fr2 : W0.frozen? ⟨w.heap.size + 1, 2, none⟩ = false := free_at err 2
    have fr3 : W0.frozen? ⟨w.heap.size + 1, 3, none⟩ = false := free_at err 3
    have fr4 : W0.frozen? ⟨w.heap.size + 1, 4, none⟩ = false := free_at err 4
    clear err
    have lr : w.heap.size + 1 < W0.heap.size := World.block_lt_of_cell? W0 _ r0
    go_wp2_with fail
    have A2 := ((((((HR0.out.swap.setBlk 4 (.slice (some ⟨W0.heap.size, 0, none⟩) 0 0)).swap.setBlk 0 (.int .i64 n)).setBlk 1 (.int .i64 a)).setBlk 2 (.int .i64 c)).setBlk 3 (.int .i64 k)).setBlk 4 (.slice (some ⟨W0.heap.size, 0, none⟩) 0 0))
    have hown : ∀ Ws : World, (Ws.alloc (.cells #[] 9)).ownsRow Ws.heap.size 9 1 (.slice (some ⟨Ws.heap.size, 0, none⟩) 0 0) 0 [] := fun Ws => World.ownsRow_made Ws #[] 0 (Nat.le_refl _) (by unfold maxLen; omega) rfl
    have KEY : ∀ (Ws : World) (ds : List Comp), Ws.heap.size = W0.heap.size → All ds Ws → All (ownC 9 (.slice (some ⟨W0.heap.size, 0, none⟩) 0 0) (cellsT []) :: ds) (Ws.alloc (.cells #[] 9)) := fun Ws ds hs hA => hA.addOwn (ba _ _) (by
      have := hown Ws
      rw [hs] at this
      rw [hs]
      exact this)
    have A3 := KEY _ _ (by simp) A2
    clear KEY hown
    refine bodyPost_ret (v := rowV n a c k (.slice (some ⟨W0.heap.size, 0, none⟩) 0 0)) (res33 (b := w.heap.size + 1) rfl A3.tail.1.2.1) rfl ?_
    exact ⟨_, _, rfl, A3.sublist (.cons_cons _ (.cons _ (.cons _ (.refl _))))⟩
  · go_wp2_with (at_builtin; refine wpList_append_own_at _ rfl (.tmp 3) (.tmp 6) 35 rfl W0.heap.size 9 i0 (.string (.mk #[])) 1 16 Try.underlying35 hi hz0 hz1 hz2 rfl (by decide) _ _ _ rfl h0 q l.length cp (cellsT l) rfl (by rw [cellsT_length]; omega) hnews (cellsT_one _) (by unfold maxLen; omega) (by omega) (by simp) ?_)
    intro v' w2 hown hgr _ hat
    have hB : Below W0.heap.size W0 w2 := ((Below.refl _ _).alloc (Nat.le_refl _) _).grown hgr (by simp) (fun k hk => by
      simp [Value.ownBlock] at hk
      omega)
    obtain ⟨so, sc, rfl⟩ := owns_form (by simpa using hown : w2.ownsRow W0.heap.size 9 1 v' l.length (cellsT l))
    obtain ⟨y0, y1, y2, y3, y4, fy, fr, r0, r1, r2, r3, r4, FW⟩ := FIN.out w2 so sc (by simpa using hown) hB
    clear FIN hown hgr hat hB h0 hnews x0 x1 x2 x3 x4 fx4
    go_wp2
    obtain ⟨f1, f2⟩ := FW.out _ rfl
    refine bodyPost_ret (v := rowV n a c k (.slice so l.length sc)) (res33 (b := w.heap.size + 1) rfl f1) rfl ?_
    exact ⟨_, _, rfl, f2⟩
end Go.Proofs.Ytagdpfghooogfaa

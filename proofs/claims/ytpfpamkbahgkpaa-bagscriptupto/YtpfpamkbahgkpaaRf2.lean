import Derived.Test.YtpfpamkbahgkpaaRf1
namespace Go.Proofs.Ytpfpamkbahgkpaa
open Go.RowKit
set_option linter.unusedVariables false

set_option maxHeartbeats 1600000 in
set_option maxRecDepth 1000000 in
theorem rlay_any {B : Bg} {p : Pk} {P : List (Value × List UInt8)} {cs : List Comp} {w : World} (h : All (poolC P :: (B.M ++ cs)) w) (hr : ∀ (X : List Comp) (W : World), All (X ++ (poolC P :: cs)) W → Reads W p.D p.bs) (hpl : p.bs.length ≤ 140737488355328) (h0 : 0 ≤ B.l) (h1 : B.l < 4611686018427387904) (hn : B.ps.length ≤ 1024) :
    Calls Try.prog 54 #[B.V, p.V] w fun e w' => e = .returned (.tuple #[]) ∧ ∃ v ao c, All (poolC (((p.to ao c).D, p.bs) :: P) :: ((B.lay (p.to ao c) v).M ++ cs)) w' := by
  obtain ⟨ao, c, hv, hc⟩ := h.tail.docForm
  obtain ⟨b, r, l, v, ps⟩ := B
  simp only at hv hc h0 h1 hn
  subst hv
  obtain ⟨n, hnn⟩ : ∃ n, Hid (n = ps.length) := ⟨_, hid rfl⟩
  have A0 : Hid (All (blkC w.heap.size p.cells 49 :: blkC b [.int .i64 r, .int .i64 l, .slice ao n c] 75 :: pkC (.slice ao n c) ps :: poolC P :: cs) (w.alloc (.cells p.cells.toArray 49))) := hid (by
    rw [hnn.out]
    exact (h.addBlk p.cells 49).perm (by
      have := perm_by 5 [[blkC w.heap.size p.cells 49], [poolC P], [blkC b [.int .i64 r, .int .i64 l, .slice ao ps.length c] 75], [pkC (.slice ao ps.length c) ps], cs] [0, 2, 3, 1, 4] rfl (by decide)
      simpa [List.getD] using this))
  have hnl : n ≤ 1024 := by rw [hnn.out]; exact hn
  have hbl : b ≠ w.heap.size := by have := h.tail.1.2.2 b (by simp [blkC]); omega
  have hbl' : w.heap.size ≠ b := by omega
  have eW : w.alloc (.cells #[.int .i64 p.n, .int .i64 p.f, .int .i64 p.t, .int .i64 p.a, .int .i64 p.u, .slice p.ao p.bs.length p.c] 49) = w.alloc (.cells p.cells.toArray 49) := rfl
  have hq := hid hn
  clear h hn
  obtain ⟨⟨s1, s2, s3, s4, s5, s6⟩, sf⟩ := pkAt_blk A0.out
  simp only [Nat.zero_add] at s1 s2 s3 s4 s5 s6
  have t0 : (w.alloc (.cells p.cells.toArray 49)).cell? ⟨b, 0, none⟩ = some (.int .i64 r) := by rw [cell_at A0.out.tail.1.2.1]; rfl
  have t1 : (w.alloc (.cells p.cells.toArray 49)).cell? ⟨b, 1, none⟩ = some (.int .i64 l) := by rw [cell_at A0.out.tail.1.2.1]; rfl
  have t2 : (w.alloc (.cells p.cells.toArray 49)).cell? ⟨b, 2, none⟩ = some (.slice ao n c) := by rw [cell_at A0.out.tail.1.2.1]; rfl
  have tf : ∀ j, (w.alloc (.cells p.cells.toArray 49)).frozen? ⟨b, j, none⟩ = false := fun j => free_at A0.out.tail.1.2.1 j
  have A1 := hid ((A0.out.swap.setBlk 1 (.int .i64 (l + 1))).swap.setBlk 0 (.int .i64 (l + 1)))
  have A2 : Hid (All (blkC w.heap.size (p.new (l + 1)).cells 49 :: blkC b [.int .i64 r, .int .i64 (l + 1), .slice ao n c] 75 :: pkC (.slice ao n c) ps :: poolC P :: cs) _) := hid (A1.out.setBlk 3 (.int .i64 0))
  have RW : Hid (Reads ((((w.alloc (.cells p.cells.toArray 49)).setCell ⟨b, 1, none⟩ (.int .i64 (l + 1))).setCell ⟨w.heap.size, 0, none⟩ (.int .i64 (l + 1))).setCell ⟨w.heap.size, 3, none⟩ (.int .i64 0)) p.D p.bs) := hid (hr [blkC w.heap.size (p.new (l + 1)).cells 49, blkC b [.int .i64 r, .int .i64 (l + 1), .slice ao n c] 75, pkC (.slice ao n c) ps] _ A2.out)
  clear A0 A1 hr
  go_enter Try.func54, Try.ntmps54
  go_upto_region 4 with fail
  clear s1 s2 s3 s4 s5 s6 sf t0 t1 t2 tf eW
  generalize (((w.alloc (.cells p.cells.toArray 49)).setCell ⟨b, 1, none⟩ (.int .i64 (l + 1))).setCell ⟨w.heap.size, 0, none⟩ (.int .i64 (l + 1))).setCell ⟨w.heap.size, 3, none⟩ (.int .i64 0) = W at *
  generalize w.heap.size = K at *
  obtain ⟨⟨s1, s2, s3, s4, s5, s6⟩, sf⟩ := pkAt_blk A2.out
  simp only [Nat.zero_add] at s1 s2 s3 s4 s5 s6
  obtain ⟨y, hy⟩ : ∃ y, Hid (y = p.new (l + 1)) := ⟨_, hid rfl⟩
  have RY : Reads W.drew y.D y.bs := by rw [hy.out]; exact RW.out.drew
  have hyl : y.bs.length ≤ 140737488355328 := by rw [hy.out]; exact hpl
  rw [← hy.out] at A2 s1 s2 s3 s4 s5 s6
  have t2 : W.cell? ⟨b, 2, none⟩ = some (.slice ao n c) := by rw [cell_at A2.out.tail.1.2.1]; rfl
  have hbW : b < W.heap.size := A2.out.tail.1.2.2 b (by simp [blkC])
  have C : Hid (Calls Try.prog 44 #[y.V] W.drew fun e w2 => ∃ a2 c2 a3 c3 w3, e = .returned (y.to a2 c2).V ∧ b < w2.heap.size ∧ w2.cell? ⟨b, 2, none⟩ = some (.slice ao n c) ∧ Hid ((Builtin.append_ #[39, 39] 39 #[.slice ao n c, .slice (some ⟨w2.heap.size, 0, none⟩) 1 1]).run Try.prog (w2.alloc (.cells (y.to a2 c2).cells.toArray 49)) = .ok (.slice a3 (n + 1) c3) w3) ∧ w3.cell? ⟨b, 2, none⟩ = some (.slice ao n c) ∧ w3.frozen? ⟨b, 2, none⟩ = false ∧ Hid (All (poolC (((y.to a2 c2).D, y.bs) :: P) :: blkC b [.int .i64 r, .int .i64 (l + 1), .slice a3 (n + 1) c3] 75 :: pkC (.slice a3 (n + 1) c3) (ps ++ [y.to a2 c2]) :: cs) (w3.setCell ⟨b, 2, none⟩ (.slice a3 (n + 1) c3)))) := hid (by
    refine (own_any A2.out.drew RY hyl).mono ?_
    rintro e w2 ⟨a2, c2, rfl, A3⟩
    have A4 : All (pkC (.slice ao n c) ps :: blkC b [.int .i64 r, .int .i64 (l + 1), .slice ao n c] 75 :: byC (y.to a2 c2).D y.bs :: poolC P :: cs) w2 := (A3.perm (by
      have := perm_by 6 [[byC (y.to a2 c2).D y.bs], [blkC K y.cells 49], [blkC b [.int .i64 r, .int .i64 (l + 1), .slice ao n c] 75], [pkC (.slice ao n c) ps], [poolC P], cs] [1, 3, 2, 0, 4, 5] rfl (by decide)
      simpa [List.getD] using this)).tail
    have hb2 : b < w2.heap.size := A4.tail.1.2.2 b (by simp [blkC])
    have z2 : w2.cell? ⟨b, 2, none⟩ = some (.slice ao n c) := by rw [cell_at A4.tail.1.2.1]; rfl
    obtain ⟨a3, c3, w3, hrun, A5⟩ := app_one (W := w2.alloc (.cells (y.to a2 c2).cells.toArray 49)) (K := w2.heap.size) (x := y.to a2 c2) (l := ps) (v := .slice ao n c) (A4.alloc _) (heap_alloc_new w2 _) (by have := hq.out; omega)
    rw [← hnn.out] at hrun A5
    refine ⟨a2, c2, a3, c3, w3, rfl, hb2, z2, hid hrun, by rw [cell_at A5.tail.1.2.1]; rfl, free_at A5.tail.1.2.1 2, hid ?_⟩
    have A6 := A5.swap.setBlk 2 (.slice a3 (n + 1) c3)
    have A7 := (A6.perm (perm22 _ _ _ _ _)).poolAdd
    exact A7)
  have HYS := hid hyl
  clear A2 RW RY hyl
  go_region_law (first | (go_simp; go_at_call 44; refine C.out.mono ?_; rintro e w2 ⟨a2, c2, a3, c3, w3, rfl, hb2, z2, R, z3, f3, A4⟩) | (refine step_append_run (by rfl) _ _ 39 (by rfl) _ _ _ _ (by rfl) (by rfl) R.out ?_))
  all_goals (go_wp2; go_end0; refine ⟨rfl, .slice a3 (n + 1) c3, a2, c2, ?_⟩; have A5 := A4.out; rw [hy.out] at A5; exact A5)
end Go.Proofs.Ytpfpamkbahgkpaa

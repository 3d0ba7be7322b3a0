import Derived.Test.YtpfpamkbahgkpaaBg13
namespace Go.Proofs.Ytpfpamkbahgkpaa
open Go.RowKit
set_option linter.unusedVariables false

set_option maxHeartbeats 800000 in
set_option maxRecDepth 1000000 in
theorem Take_no {B : Bg} {k : Int} {cs : List Comp} {w : World} (h : All (B.L ++ cs) w) (hn : B.ps.length ≤ 1024) (hk : hasB k B.ps.length = false) : Calls Try.prog 28 #[B.V, .int .i64 k] w fun e w' => e = .returned (.tuple #[Pk.zero.V, .int .i64 152]) ∧ Below w.heap.size w w' := by
  have A0 := hid ((All.came w).addBlk Pk.zero.cells 49)
  have h := h.alloc (.cells Pk.zero.cells.toArray 49)
  have D := hid (At_no h hn hk)
  have eW : w.alloc (.cells #[.int .i64 0, .int .i64 0, .int .i64 0, .int .i64 0, .int .i64 0, .slice none 0 0] 49) = w.alloc (.cells Pk.zero.cells.toArray 49) := rfl
  clear h
  go_enter Try.func28, Try.ntmps28
  go_wp2_with fail
  refine D.out.mono ?_
  rintro e w1 ⟨rfl, hb⟩
  have hlt : w.heap.size < w1.heap.size := (A0.out.later hb).1.2.2 w.heap.size (by simp [blkC])
  have A1 := hid (A0.out.later hb)
  clear hb eW D A0
  obtain ⟨⟨s1, s2, s3, s4, s5, s6⟩, sf⟩ := pkAt_blk A1.out
  simp only [Nat.zero_add] at s1 s2 s3 s4 s5 s6
  have A2 : Hid (∀ o, All (blkC w.heap.size Pk.zero.cells 49 :: [inC w]) (((((((w1.setCell ⟨w.heap.size, 0, none⟩ (.int .i64 0)).setCell ⟨w.heap.size, 1, none⟩ (.int .i64 0)).setCell ⟨w.heap.size, 2, none⟩ (.int .i64 0)).setCell ⟨w.heap.size, 3, none⟩ (.int .i64 0)).setCell ⟨w.heap.size, 4, none⟩ (.int .i64 0)).setCell ⟨w.heap.size, 5, none⟩ (.slice none 0 0)).alloc o)) := hid (fun o => (All.setBlks Pk.zero.cells Pk.zero.cells _ 0 A1.out).alloc o)
  clear A1
  go_wp2
  refine ret_pkB (fn := Try.f28) (b := w.heap.size) (x := Pk.zero) rfl rfl rfl (A2.out _).1.2.1 rfl ?_
  exact ⟨rfl, (A2.out _).into (w0 := w) (by simp)⟩

theorem perm_take (a b c : Comp) (X : List Comp) : (a :: b :: c :: X).Perm (c :: a :: b :: X) := by
  have := perm_by 4 [[a], [b], [c], X] [2, 0, 1, 3] rfl (by decide)
  simpa [List.getD] using this
set_option maxHeartbeats 800000 in
set_option maxRecDepth 1000000 in
theorem Take_yes {B : Bg} {i : Nat} {p : Pk} {cs : List Comp} {w : World} (h : All (B.L ++ cs) w) (hn : B.ps.length ≤ 1024) (hp : B.ps[i]? = some p) (hr : Reads w p.D p.bs) (hl : p.bs.length ≤ 140737488355328) : Calls Try.prog 28 #[B.V, .int .i64 (i : Int)] w fun e w' => ∃ H v, e = .returned (.tuple #[(p.at H).V, .int .i64 0]) ∧ All (byC (p.at H).D p.bs :: ((Bg.mk B.b B.r B.l v (B.ps.eraseIdx i)).L ++ cs)) w' := by
  have hi : i < B.ps.length := (List.getElem?_eq_some_iff.1 hp).1
  have A0 : All (B.L ++ (blkC w.heap.size Pk.zero.cells 49 :: cs)) (w.alloc (.cells Pk.zero.cells.toArray 49)) := (h.addBlk Pk.zero.cells 49).perm (perm12 _ _ _ _)
  obtain ⟨g, c, hv, hg, hrg, _⟩ := row_at (All.bagRow (cs := []) h) hp
  have hcm : B.ps.length ≤ c ∧ c ≤ maxLen := by
    have ho := All.bagRow (cs := []) h
    rw [hv] at ho
    rcases ho.2 with ⟨e1, _⟩ | ⟨g', cap, cur, e1, h0, hg, hn, hmx, hcs, ht⟩
    · cases e1
    · simp only [Value.slice.injEq, Option.some.injEq, Addr.mk.injEq, and_true] at e1
      obtain ⟨rfl, -, rfl⟩ := e1
      exact ⟨hn, hmx⟩
  have D := hid (At_yes A0 hn hp (hr.below (ba w _)) hl)
  have eW : w.alloc (.cells #[.int .i64 0, .int .i64 0, .int .i64 0, .int .i64 0, .int .i64 0, .slice none 0 0] 49) = w.alloc (.cells Pk.zero.cells.toArray 49) := rfl
  obtain ⟨b, r, l, v, ps⟩ := B
  simp only at hv hn hp hi hcm
  subst hv
  have HP := hid hp
  obtain ⟨n, hnn⟩ : ∃ n, Hid (n = ps.length) := ⟨_, hid rfl⟩
  have D : Hid (Calls Try.prog 26 #[.pointer (some ⟨b, 0, none⟩), .int .i64 (i : Int)] (w.alloc (.cells Pk.zero.cells.toArray 49)) (fun e w' => ∃ H, e = .returned (.tuple #[(p.at H).V, .bool true]) ∧ All (byC (p.at H).D p.bs :: blkC b [.int .i64 r, .int .i64 l, .slice (some ⟨g, 0, none⟩) n c] 72 :: pkC (.slice (some ⟨g, 0, none⟩) ps.length c) ps :: blkC w.heap.size Pk.zero.cells 49 :: cs) w')) := by rw [hnn.out]; exact D
  have hin : i < n := by rw [hnn.out]; exact hi
  have hnl : n ≤ 1024 := by rw [hnn.out]; exact hn
  have HC := hid hcm
  have HN := hid hn
  have HI := hid hi
  clear h hp hr hrg A0 hcm hn hi
  show Calls Try.prog 28 #[.pointer (some ⟨b, 0, none⟩), .int .i64 (i : Int)] w (fun e w' => ∃ H v, e = .returned (.tuple #[(p.at H).V, .int .i64 0]) ∧ All (byC (p.at H).D p.bs :: blkC b [.int .i64 r, .int .i64 l, v] 72 :: pkC v (ps.eraseIdx i) :: cs) w')
  go_enter Try.func28, Try.ntmps28
  go_wp2_with fail
  refine D.out.mono ?_
  rintro e w1 ⟨H, rfl, A1⟩
  have hlt : w.heap.size < w1.heap.size := (A1.mem (c := blkC w.heap.size Pk.zero.cells 49) (by simp)).2.2 w.heap.size (by simp [blkC])
  have hbl : b < w1.heap.size := (A1.mem (c := blkC b [.int .i64 r, .int .i64 l, .slice (some ⟨g, 0, none⟩) n c] 72) (by simp)).2.2 b (by simp [blkC])
  have A2 := hid (A1.addBlk (p.at H).cells 49)
  have t2 : w1.cell? ⟨b, 2, none⟩ = some (.slice (some ⟨g, 0, none⟩) n c) := by
    rw [cell_at (A1.mem (c := blkC b [.int .i64 r, .int .i64 l, .slice (some ⟨g, 0, none⟩) n c] 72) (by simp)).2.1]; rfl
  clear A1 D eW
  have C : Hid (Calls Try.prog 50 #[.slice (some ⟨g, 0, none⟩) n c, .int .i64 (i : Int), .int .i64 ((i : Int) + 1)] (w1.alloc (.cells (p.at H).cells.toArray 49)) (fun e w' => e = .returned (.slice (some ⟨g, 0, none⟩) (n - 1) c) ∧ All (pkC (.slice (some ⟨g, 0, none⟩) (n - 1) c) (ps.eraseIdx i) :: blkC w1.heap.size (p.at H).cells 49 :: byC (p.at H).D p.bs :: blkC b [.int .i64 r, .int .i64 l, .slice (some ⟨g, 0, none⟩) n c] 72 :: blkC w.heap.size Pk.zero.cells 49 :: cs) w')) := hid (by
    have := del_any (A2.out.perm (by
      have := perm_by 6 [[blkC w1.heap.size (p.at H).cells 49], [byC (p.at H).D p.bs], [blkC b [.int .i64 r, .int .i64 l, .slice (some ⟨g, 0, none⟩) n c] 72], [pkC (.slice (some ⟨g, 0, none⟩) ps.length c) ps], [blkC w.heap.size Pk.zero.cells 49], cs] [3, 0, 1, 2, 4, 5] rfl (by decide)
      simpa [List.getD] using this)) HN.out HC.out.1 HC.out.2 HI.out
    rw [hnn.out]
    rw [hnn.out] at this
    exact this)
  clear A2
  go_wp2_with fail
  refine C.out.mono ?_
  rintro e w2 ⟨rfl, A3⟩
  generalize w1.heap.size = K1 at *
  have A4 : All (blkC K1 (p.at H).cells 49 :: blkC w.heap.size Pk.zero.cells 49 :: blkC b [.int .i64 r, .int .i64 l, .slice (some ⟨g, 0, none⟩) n c] 72 :: byC (p.at H).D p.bs :: pkC (.slice (some ⟨g, 0, none⟩) (n - 1) c) (ps.eraseIdx i) :: cs) w2 := A3.perm (by
    have := perm_by 6 [[pkC (.slice (some ⟨g, 0, none⟩) (n - 1) c) (ps.eraseIdx i)], [blkC K1 (p.at H).cells 49], [byC (p.at H).D p.bs], [blkC b [.int .i64 r, .int .i64 l, .slice (some ⟨g, 0, none⟩) n c] 72], [blkC w.heap.size Pk.zero.cells 49], cs] [1, 4, 3, 2, 0, 5] rfl (by decide)
    simpa [List.getD] using this)
  obtain ⟨⟨s1, s2, s3, s4, s5, s6⟩, sf⟩ := pkAt_blk A4
  obtain ⟨⟨z1, z2, z3, z4, z5, z6⟩, zf⟩ := pkAt_blk A4.tail
  simp only [Nat.zero_add] at s1 s2 s3 s4 s5 s6 z1 z2 z3 z4 z5 z6
  have u2 : w2.cell? ⟨b, 2, none⟩ = some (.slice (some ⟨g, 0, none⟩) n c) := by rw [cell_at A4.tail.tail.1.2.1]; rfl
  have uf : ∀ j, w2.frozen? ⟨b, j, none⟩ = false := fun j => free_at A4.tail.tail.1.2.1 j
  have n1 : K1 ≠ w.heap.size := fun e => A4.2.1 (blkC w.heap.size Pk.zero.cells 49) (by simp) K1 (by simp [blkC]) (by simp [blkC, e])
  have n2 : K1 ≠ b := fun e => A4.2.1 (blkC b [.int .i64 r, .int .i64 l, .slice (some ⟨g, 0, none⟩) n c] 72) (by simp) K1 (by simp [blkC]) (by simp [blkC, e])
  have n3 : w.heap.size ≠ b := fun e => A4.tail.2.1 (blkC b [.int .i64 r, .int .i64 l, .slice (some ⟨g, 0, none⟩) n c] 72) (by simp) w.heap.size (by simp [blkC]) (by simp [blkC, e])
  have n1' : w.heap.size ≠ K1 := n1.symm
  have n2' : b ≠ K1 := n2.symm
  have n3' : b ≠ w.heap.size := n3.symm
  have A5 : All (blkC w.heap.size Pk.zero.cells 49 :: blkC b [.int .i64 r, .int .i64 l, .slice (some ⟨g, 0, none⟩) (n - 1) c] 72 :: byC (p.at H).D p.bs :: pkC (.slice (some ⟨g, 0, none⟩) (n - 1) c) (ps.eraseIdx i) :: cs) (w2.setCell ⟨b, 2, none⟩ (.slice (some ⟨g, 0, none⟩) (n - 1) c)) := (A4.tail.swap.setBlk 2 (.slice (some ⟨g, 0, none⟩) (n - 1) c)).swap
  have A6 : Hid (All (blkC w.heap.size (p.at H).cells 49 :: blkC b [.int .i64 r, .int .i64 l, .slice (some ⟨g, 0, none⟩) (n - 1) c] 72 :: byC (p.at H).D p.bs :: pkC (.slice (some ⟨g, 0, none⟩) (n - 1) c) (ps.eraseIdx i) :: cs) ((w2.setCell ⟨b, 2, none⟩ (.slice (some ⟨g, 0, none⟩) (n - 1) c)).setCells w.heap.size 0 (p.at H).cells)) := hid (All.setBlks (p.at H).cells Pk.zero.cells _ 0 A5)
  rw [set6] at A6
  simp only [Nat.zero_add] at A6
  clear A3 A4 A5 C t2 hlt hbl hg
  go_wp2
  refine ret_pkB (fn := Try.f28) (b := w.heap.size) (x := p.at H) rfl rfl rfl A6.out.1.2.1 rfl ?_
  exact ⟨H, _, rfl, A6.out.tail.swap⟩
end Go.Proofs.Ytpfpamkbahgkpaa

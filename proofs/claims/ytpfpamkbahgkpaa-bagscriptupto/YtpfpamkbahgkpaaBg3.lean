import Derived.Test.YtpfpamkbahgkpaaBg2
namespace Go.Proofs.Ytpfpamkbahgkpaa
open Go.RowKit
set_option linter.unusedVariables false

/-- A bag. -/
structure Bg where
  b : Nat
  r : Int
  l : Int
  v : Value
  ps : List Pk
/-- Its parts. -/
abbrev Bg.L (B : Bg) : List Comp := [blkC B.b [.int .i64 B.r, .int .i64 B.l, B.v] 72, pkC B.v B.ps]
abbrev Bg.V (B : Bg) : Value := .pointer (some ⟨B.b, 0, none⟩)
/-- A packet that has become the newest one. -/
def Pk.new (p : Pk) (k : Int) : Pk := { p with n := k, a := 0 }
/-- A bag with one packet more. -/
def Bg.lay (B : Bg) (p : Pk) (v : Value) : Bg := { B with l := B.l + 1, v := v, ps := B.ps ++ [p.new (B.l + 1)] }

theorem All.bagForm {B : Bg} {cs : List Comp} {w : World} (h : All (B.L ++ cs) w) : ∃ ao c, B.v = .slice ao B.ps.length c ∧ B.ps.length ≤ c := owns6_form (h.tail.1.2.1 : w.ownsRow 0 49 6 B.v B.ps.length (flatP B.ps))

set_option maxHeartbeats 800000 in
set_option maxRecDepth 1000000 in
theorem lay_any {B : Bg} {p : Pk} {cs : List Comp} {w : World} (h : All (B.L ++ cs) w) (h0 : 0 ≤ B.l) (h1 : B.l < 4611686018427387904) (hn : B.ps.length ≤ 1024) :
    Calls Try.prog 47 #[B.V, p.V] w fun e w' => e = .returned (.tuple #[]) ∧ ∃ v, All ((B.lay p v).L ++ cs) w' := by
  obtain ⟨ao, c, hv, hc⟩ := h.bagForm
  obtain ⟨b, r, l, v, ps⟩ := B
  simp only at hv hc h0 h1 hn
  subst hv
  obtain ⟨n, hnn⟩ : ∃ n, Hid (n = ps.length) := ⟨_, hid rfl⟩
  have A0 : Hid (All (blkC w.heap.size p.cells 49 :: blkC b [.int .i64 r, .int .i64 l, .slice ao n c] 72 :: pkC (.slice ao n c) ps :: cs) (w.alloc (.cells p.cells.toArray 49))) := hid (by
    rw [hnn.out]
    exact h.addBlk p.cells 49)
  have hnl : n ≤ 1024 := by rw [hnn.out]; exact hn
  have hbl : b ≠ w.heap.size := by have := h.1.2.2 b (by simp [blkC]); omega
  have hbl' : w.heap.size ≠ b := by omega
  have eW : w.alloc (.cells #[.int .i64 p.n, .int .i64 p.f, .int .i64 p.t, .int .i64 p.a, .int .i64 p.u, .slice p.ao p.bs.length p.c] 49) = w.alloc (.cells p.cells.toArray 49) := rfl
  have hq := hid hn
  clear h hn
  obtain ⟨⟨s1, s2, s3, s4, s5, s6⟩, sf⟩ := pkAt_blk A0.out
  simp only [Nat.zero_add] at s1 s2 s3 s4 s5 s6
  have t0 : (w.alloc (.cells p.cells.toArray 49)).cell? ⟨b, 0, none⟩ = some (.int .i64 r) := by rw [cell_at A0.out.tail.1.2.1]; rfl
  have t1 : (w.alloc (.cells p.cells.toArray 49)).cell? ⟨b, 1, none⟩ = some (.int .i64 l) := by rw [cell_at A0.out.tail.1.2.1]; rfl
  have t2 : (w.alloc (.cells p.cells.toArray 49)).cell? ⟨b, 2, none⟩ = some (.slice ao n c) := by rw [cell_at A0.out.tail.1.2.1]; rfl
  have tf : ∀ j, (w.alloc (.cells p.cells.toArray 49)).frozen? ⟨b, j, none⟩ = false := fun j => free_at A0.out.tail.1.2.1 j
  have A1 := hid ((A0.out.swap.setBlk 1 (.int .i64 (l + 1))).swap.setBlk 0 (.int .i64 (l + 1)))
  have A2 : Hid (All (blkC w.heap.size (p.new (l + 1)).cells 49 :: blkC b [.int .i64 r, .int .i64 (l + 1), .slice ao n c] 72 :: pkC (.slice ao n c) ps :: cs) _) := hid (A1.out.setBlk 3 (.int .i64 0))
  clear A0 A1
  go_enter Try.func47, Try.ntmps47
  go_upto_region 3 with fail
  clear s1 s2 s3 s4 s5 s6 sf t0 t1 t2 tf eW
  generalize (((w.alloc (.cells p.cells.toArray 49)).setCell ⟨b, 1, none⟩ (.int .i64 (l + 1))).setCell ⟨w.heap.size, 0, none⟩ (.int .i64 (l + 1))).setCell ⟨w.heap.size, 3, none⟩ (.int .i64 0) = W at *
  generalize w.heap.size = K at *
  obtain ⟨⟨s1, s2, s3, s4, s5, s6⟩, sf⟩ := pkAt_blk A2.out
  simp only [Nat.zero_add] at s1 s2 s3 s4 s5 s6
  obtain ⟨y, hy⟩ : ∃ y, Hid (y = p.new (l + 1)) := ⟨_, hid rfl⟩
  rw [← hy.out] at A2 s1 s2 s3 s4 s5 s6
  have e1 : y.n = l + 1 := by rw [hy.out]; rfl
  have e2 : y.f = p.f := by rw [hy.out]; rfl
  have e3 : y.t = p.t := by rw [hy.out]; rfl
  have e4 : y.a = 0 := by rw [hy.out]; rfl
  have t2 : W.cell? ⟨b, 2, none⟩ = some (.slice ao n c) := by rw [cell_at A2.out.tail.1.2.1]; rfl
  have hbW : b < W.heap.size := A2.out.tail.1.2.2 b (by simp [blkC])
  have eW : W.drew.alloc (.cells #[.int .i64 y.n, .int .i64 y.f, .int .i64 y.t, .int .i64 y.a, .int .i64 y.u, .slice y.ao y.bs.length y.c] 49) = W.drew.alloc (.cells y.cells.toArray 49) := rfl
  obtain ⟨ao', c', w', hr, A3⟩ := app_one (W := W.drew.alloc (.cells y.cells.toArray 49)) (K := W.heap.size) (x := y) (l := ps) (v := .slice ao n c) (cs := blkC b [.int .i64 r, .int .i64 (l + 1), .slice ao n c] 72 :: cs) (A2.out.tail.swap.drew.alloc _) (heap_alloc_new W.drew _) (by have := hq.out; omega)
  rw [← hnn.out] at hr A3
  have t3 : w'.cell? ⟨b, 2, none⟩ = some (.slice ao n c) := by rw [cell_at A3.tail.1.2.1]; rfl
  have f3 : w'.frozen? ⟨b, 2, none⟩ = false := free_at A3.tail.1.2.1 2
  have A4 : Hid (All (blkC b [.int .i64 r, .int .i64 (l + 1), .slice ao' (n + 1) c'] 72 :: pkC (.slice ao' (n + 1) c') (ps ++ [y]) :: cs) (w'.setCell ⟨b, 2, none⟩ (.slice ao' (n + 1) c'))) := hid (A3.swap.setBlk 2 (.slice ao' (n + 1) c'))
  have HR := hid hr
  rw [hy.out] at A4
  clear A2 A3 hr e1 e2 e3 e4
  go_region_law (refine step_append_run (by rfl) _ _ 39 (by rfl) _ _ _ _ (by rfl) (by rfl) HR.out ?_)
  all_goals (go_wp2; go_end0; exact ⟨rfl, .slice ao' (n + 1) c', A4.out⟩)

set_option maxRecDepth 1000000 in
/-- New, where the room may not be. -/
theorem New_no {r : Int} {w : World} (h : ¬ (1 ≤ r ∧ r ≤ 1024)) : Calls Try.prog 19 #[.int .i64 r] w fun e w' => e = .returned (.tuple #[.pointer none, .int .i64 150]) ∧ w' = w := by
  by_cases h1 : r < 1
  · clear h
    go_enter Try.func19, Try.ntmps19
    go_wp2
    go_ret2
    exact ⟨rfl, rfl⟩
  · have h2 : 1024 < r := by omega
    clear h
    go_enter Try.func19, Try.ntmps19
    go_wp2
    go_ret2
    exact ⟨rfl, rfl⟩
set_option maxRecDepth 1000000 in
theorem New_ok {r : Int} {cs : List Comp} {w : World} (h : All cs w) (h1 : 1 ≤ r) (h2 : r ≤ 1024) : Calls Try.prog 19 #[.int .i64 r] w fun e w' => ∃ b, e = .returned (.tuple #[.pointer (some ⟨b, 0, none⟩), .int .i64 0]) ∧ All ((Bg.mk b r 0 (.slice none 0 0) []).L ++ cs) w' := by
  have A := hid ((All.addRow0 (e := 49) (size := 6) h).addBlk [.int .i64 r, .int .i64 0, .slice none 0 0] 72)
  clear h
  have h1' : ¬ r < 1 := by omega
  have h2' : ¬ 1024 < r := by omega
  go_enter Try.func19, Try.ntmps19
  go_wp2
  go_ret2
  exact ⟨_, rfl, A.out⟩
set_option maxRecDepth 1000000 in
theorem Len_any {B : Bg} {cs : List Comp} {w : World} (h : All (B.L ++ cs) w) (hn : B.ps.length ≤ 140737488355328) : Calls Try.prog 21 #[B.V] w fun e w' => e = .returned (.int .i64 (B.ps.length : Int)) ∧ w' = w := by
  obtain ⟨ao, c, hv, hc⟩ := h.bagForm
  have t2 : w.cell? ⟨B.b, 2, none⟩ = some B.v := by rw [cell_at h.1.2.1]; rfl
  rw [hv] at t2
  clear h hv
  obtain ⟨b, r, l, v, ps⟩ := B
  simp only at t2 hc hn
  generalize ps.length = n at *
  go_enter Try.func21, Try.ntmps21
  go_wp2
  go_ret
  exact ⟨rfl, rfl⟩
end Go.Proofs.Ytpfpamkbahgkpaa

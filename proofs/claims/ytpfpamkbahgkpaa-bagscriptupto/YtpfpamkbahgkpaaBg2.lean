import Derived.Test.YtpfpamkbahgkpaaBg1
namespace Go.Proofs.Ytpfpamkbahgkpaa
open Go.RowKit
set_option linter.unusedVariables false

/-- The packet as a value. -/
abbrev Pk.V (p : Pk) : Value := .agg #[.int .i64 p.n, .int .i64 p.f, .int .i64 p.t, .int .i64 p.a, .int .i64 p.u, .slice p.ao p.bs.length p.c]
/-- A packet's cells, one by one. -/
def pkAt (w : World) (b o : Nat) (x : Pk) : Prop := w.cell? ⟨b, o, none⟩ = some (.int .i64 x.n) ∧ w.cell? ⟨b, o + 1, none⟩ = some (.int .i64 x.f) ∧ w.cell? ⟨b, o + 2, none⟩ = some (.int .i64 x.t) ∧ w.cell? ⟨b, o + 3, none⟩ = some (.int .i64 x.a) ∧ w.cell? ⟨b, o + 4, none⟩ = some (.int .i64 x.u) ∧ w.cell? ⟨b, o + 5, none⟩ = some (.slice x.ao x.bs.length x.c)
theorem pkAt_of {w : World} {b o : Nat} {x : Pk} (h : w.rangeAt b o x.cells) : pkAt w b o x :=
  ⟨h 0 _ rfl, h 1 _ rfl, h 2 _ rfl, h 3 _ rfl, h 4 _ rfl, h 5 _ rfl⟩
theorem set6 (w : World) (b o : Nat) (x : Pk) : w.setCells b o x.cells = (((((w.setCell ⟨b, o, none⟩ (.int .i64 x.n)).setCell ⟨b, o + 1, none⟩ (.int .i64 x.f)).setCell ⟨b, o + 2, none⟩ (.int .i64 x.t)).setCell ⟨b, o + 3, none⟩ (.int .i64 x.a)).setCell ⟨b, o + 4, none⟩ (.int .i64 x.u)).setCell ⟨b, o + 5, none⟩ (.slice x.ao x.bs.length x.c) := rfl
theorem pk_at {w : World} {b o : Nat} {e : Pk} (h : w.rangeAt b o e.cells) : (loadVar 49 ⟨b, o, none⟩).run Try.prog w = .ok (.agg e.cells.toArray) w :=
  run_loadVar_mid w b o 49 e.cells _ h Try.underlying49 rfl size49
theorem pkAt_blk {w : World} {b : Nat} {x : Pk} {cs : List Comp} (h : All (blkC b x.cells 49 :: cs) w) : pkAt w b 0 x ∧ ∀ j, w.frozen? ⟨b, j, none⟩ = false :=
  ⟨pkAt_of (range_one h.1.2.1), fun j => free_at h.1.2.1 j⟩

/-- A packet whose bytes lie in a block of their own. -/
def Pk.at (p : Pk) (H : Nat) : Pk := { p with ao := some ⟨H, 0, none⟩, c := p.bs.length }
theorem Pk.at_vis (p : Pk) (H : Nat) : (p.at H).vis = p.vis := rfl

/-- A result that is a packet. -/
theorem ret_pk {fn : Func} {p : Tmp} (hf : fn.results = #[.cell p 49]) {R : Ending → World → Prop} {a : Act} {w : World} {b : Nat} {x : Pk} (ht : a.tmps.getD p undef = .pointer (some ⟨b, 0, none⟩)) (hg : w.heap[b]? = some (.cells x.cells.toArray 49 (0, 0))) (hd : a.defers = []) (hR : R (.returned x.V) w) : bodyPost Try.prog fn R .ret a w :=
  bodyPost_ret (v := x.V) (results_cell_row (fn := fn) hf _ _ b 49 x.cells.toArray (0, 0) _ ht hg Try.underlying49 rfl (by kernel_rfl)) hd hR
theorem ret_pkB {fn : Func} {p u : Tmp} (hf : fn.results = #[.cell p 49, .tmp u]) {R : Ending → World → Prop} {a : Act} {w : World} {b : Nat} {x : Pk} {v : Value} (ht : a.tmps.getD p undef = .pointer (some ⟨b, 0, none⟩)) (hu : a.tmps.getD u undef = v) (hg : w.heap[b]? = some (.cells x.cells.toArray 49 (0, 0))) (hd : a.defers = []) (hR : R (.returned (.tuple #[x.V, v])) w) : bodyPost Try.prog fn R .ret a w := by
  refine bodyPost_ret (v := .tuple #[x.V, v]) ?_ hd hR
  rw [results_cell_tmp hf, ht, hu]
  have e1 : (asAddr (.pointer (some ⟨b, 0, none⟩))).run Try.prog w = .ok ⟨b, 0, none⟩ w := rfl
  rw [e1]
  show ((loadVar 49 ⟨b, 0, none⟩).run Try.prog w).andThen _ = _
  rw [pk_at (range_one hg)]
  rfl

theorem perm3 (a b c : Comp) (X : List Comp) : (a :: b :: c :: X).Perm (c :: b :: a :: X) := by
  have := perm_by 4 [[a], [b], [c], X] [2, 1, 0, 3] rfl (by decide)
  simpa [List.getD] using this

set_option maxHeartbeats 800000 in
set_option maxRecDepth 1000000 in
theorem told_any {p : Pk} {cs : List Comp} {w : World} (h : All cs w) (hr : Reads w p.D p.bs) (hl : p.bs.length ≤ 140737488355328) :
    Calls Try.prog 43 #[p.V] w fun e w' => ∃ H, e = .returned (p.at H).V ∧ All (byC (p.at H).D p.bs :: cs) w' := by
  have A0 : Hid (All (blkC (w.heap.size + 1) Pk.zero.cells 49 :: blkC w.heap.size p.cells 49 :: cs) ((w.alloc (.cells p.cells.toArray 49)).alloc (.cells Pk.zero.cells.toArray 49))) := hid (by
    have A2 := (h.addBlk p.cells 49).addBlk Pk.zero.cells 49
    simpa using A2)
  have eW : ((w.alloc (.cells #[.int .i64 p.n, .int .i64 p.f, .int .i64 p.t, .int .i64 p.a, .int .i64 p.u, .slice p.ao p.bs.length p.c] 49)).alloc (.cells #[.int .i64 0, .int .i64 0, .int .i64 0, .int .i64 0, .int .i64 0, .slice none 0 0] 49)) = ((w.alloc (.cells p.cells.toArray 49)).alloc (.cells Pk.zero.cells.toArray 49)) := rfl
  have C : Hid (Calls Try.prog 48 #[.slice p.ao p.bs.length p.c] ((w.alloc (.cells p.cells.toArray 49)).alloc (.cells Pk.zero.cells.toArray 49)) _) := hid (copied_any A0.out ((hr.below (ba w _)).below (ba _ _)) hl)
  obtain ⟨⟨s1, s2, s3, s4, s5, s6⟩, hf⟩ := pkAt_blk (A0.out.tail)
  simp only [Nat.zero_add] at s1 s2 s3 s4 s5 s6
  clear h hr
  go_enter Try.func43, Try.ntmps43
  go_wp2_with (fail)
  refine C.out.mono ?_
  rintro e w2 ⟨H, rfl, A2⟩
  have A2 := hid A2
  clear s1 s2 s3 s4 s5 s6 hf C A0 eW
  obtain ⟨⟨s1, s2, s3, s4, s5, s6⟩, hf⟩ := pkAt_blk (A2.out.tail.tail)
  obtain ⟨⟨t1, t2, t3, t4, t5, t6⟩, tf⟩ := pkAt_blk (A2.out.tail)
  simp only [Nat.zero_add] at s1 s2 s3 s4 s5 s6 t1 t2 t3 t4 t5 t6
  have A3 := hid (All.setBlk (A2.out.perm (perm3 _ _ _ _)) 5 (.slice (some ⟨H, 0, none⟩) p.bs.length p.bs.length))
  have A4 : Hid (All (blkC (w.heap.size + 1) (p.at H).cells 49 :: byC (p.at H).D p.bs :: cs) ((w2.setCell ⟨w.heap.size, 5, none⟩ (.slice (some ⟨H, 0, none⟩) p.bs.length p.bs.length)).setCells (w.heap.size + 1) 0 (p.at H).cells)) := hid (All.setBlks (p.at H).cells Pk.zero.cells _ 0 (A3.out.tail))
  rw [set6] at A4
  simp only [Nat.zero_add] at A4
  clear A2 A3
  go_wp2
  refine ret_pk (fn := Try.f43) (b := w.heap.size + 1) (x := p.at H) rfl rfl A4.out.1.2.1 rfl ?_
  exact ⟨H, rfl, A4.out.tail⟩
end Go.Proofs.Ytpfpamkbahgkpaa

import Derived.Test.YtpfpamkbahgkpaaBg9
import Derived.Maps.AppendAt
namespace Go.Proofs.Ytpfpamkbahgkpaa
open Go.RowKit
set_option linter.unusedVariables false

/-- Older. -/
theorem Older_any {B : Bg} {P : List (Value × List UInt8)} {cs : List Comp} {w : World} (h : All (poolC P :: (B.L ++ cs)) w) (hi : B.In P) {k : Nat} (ho : B.ab.Ok k) (hk : k < 4611686018427387904) :
    Calls Try.prog 38 #[B.V] w fun e w' => e = .returned (.tuple #[]) ∧ B.To B.ab.older P cs w' := by
  have hn : B.ps.length ≤ 1024 := by rw [← B.ab_len]; exact ho.small
  refine (Older_ok (h.perm (perm12 _ _ _ _)) hn (fun p hp => ?_)).mono ?_
  · have h0 := ho.a0 p.ap (List.mem_map_of_mem hp)
    have h1 := ho.a1 p.ap (List.mem_map_of_mem hp)
    simp only [Pk.ap] at h0 h1
    omega
  · rintro e w' ⟨rfl, A⟩
    refine ⟨rfl, P, Bg.mk B.b B.r B.l B.v (B.ps.map Pk.old), rfl, ?_, ?_, fun e h => h, A.perm (perm12 _ _ _ _).symm⟩
    · simp [Bg.ab, AB.older, Pk.old, Pk.ap]
    · intro q hq
      obtain ⟨p, hp, rfl⟩ := List.mem_map.1 hq
      exact hi p hp

theorem All.addMade {cs : List Comp} {w : World} (h : All cs w) : All (rowC 49 6 (.slice (some ⟨w.heap.size, 0, none⟩) 0 0) 0 [] :: cs) (w.alloc (.cells #[] 49)) := by
  refine h.add (Fr.below (ba w _)) (rowC_good _ _ _ _ _) ?_ (fun k hk => ?_)
  · exact ⟨rfl, Or.inr ⟨w.heap.size, 0, #[], rfl, Nat.zero_le _, heap_alloc_new w _, Nat.le_refl _, by unfold maxLen; omega, rfl, rfl⟩⟩
  · have : k = w.heap.size := by simpa [rowC, Value.ownBlock, eq_comm] using hk
    subst this
    exact ⟨Nat.le_refl _, by simp⟩
theorem owns_cells {w : World} {g c : Nat} {ps : List Pk} (h : w.ownsRow 0 49 6 (.slice (some ⟨g, 0, none⟩) ps.length c) ps.length (flatP ps)) : ∀ j u, (flatP ps)[j]? = some u → w.cell? ((⟨g, 0, none⟩ : Addr).add j) = some u := by
  intro j u hu
  rcases h.2 with ⟨e, e2⟩ | ⟨g', cap, cur, e, _, hg, hn, hm, hcs, ht⟩
  · cases e
  · simp only [Value.slice.injEq, Option.some.injEq, Addr.mk.injEq, and_true] at e
    obtain ⟨rfl, _, rfl⟩ := e
    have hj := (List.getElem?_eq_some_iff.1 hu).1
    rw [flatP_len] at hj
    rw [Addr.add_lit, Nat.zero_add, cell_at hg, ← Array.getElem?_toList, ← hu, ← ht, List.getElem?_take, if_pos hj]

set_option maxHeartbeats 800000 in
set_option maxRecDepth 1000000 in
theorem pclone_some {g c : Nat} {ps : List Pk} {cs : List Comp} {w : World} (h : All cs w) (hr : w.ownsRow 0 49 6 (.slice (some ⟨g, 0, none⟩) ps.length c) ps.length (flatP ps)) (hn : ps.length ≤ 1024) :
    Calls Try.prog 32 #[.slice (some ⟨g, 0, none⟩) ps.length c] w fun e w' => ∃ v, e = .returned v ∧ All (pkC v ps :: cs) w' := by
  obtain ⟨i1, hi1, hz0, hz1, hz2⟩ := info_parts Try.info49
  have he := fun w => Lib.run_eql_slice_nil (P := Try.prog) w 39 49 (some ⟨g, 0, none⟩) ps.length c 0 0 Try.underlying39
  have A0 := h.addMade
  have hgl : g < w.heap.size := by
    rcases hr.2 with ⟨e, e2⟩ | ⟨g', cap, cur, e, _, hg, hn, hm, hcs, ht⟩
    · cases e
    · simp only [Value.slice.injEq, Option.some.injEq, Addr.mk.injEq, and_true] at e
      rw [e.1]
      exact (Array.getElem?_eq_some_iff.1 hg).1
  obtain ⟨v', w', hrun, h2, h3, h4, h5⟩ := run_append_own_at (P := Try.prog) (w.alloc (.cells #[] 49)) 0 39 39 49 i1 (.agg Pk.zero.cells.toArray) 6 64 Try.underlying39 hi1 hz0 hz1 hz2 rfl (by decide) (.slice (some ⟨w.heap.size, 0, none⟩) 0 0) 0 [] A0.1.2.1 ⟨g, 0, none⟩ ps.length c (flatP ps) (flatP_len ps)
    (fun j u hu => by
      have := owns_cells hr j u hu
      rw [Addr.add_lit] at this ⊢
      rw [World.cell?_of_block (w := w) (Below.heap_alloc _ _ _ hgl)]
      exact this) (flatP_one ps) (by unfold maxLen; omega) (by omega) (by omega)
  obtain ⟨ao, cc, rfl⟩ := owns_form h2
  have A1 := hid (A0.rowGrow (vs' := flatP ps) (n' := ps.length) (by simpa using h2) h3 h5)
  simp only [Nat.zero_add] at hrun A1
  have HR := hid hrun
  clear A0 h2 h3 h4 h5 hrun h hr
  go_enter Try.func32, Try.ntmps32
  go_wp2_with (at_builtin; refine wpList_append_run rfl _ _ 39 rfl _ _ _ _ rfl rfl HR.out ?_)
  go_ret
  exact ⟨_, rfl, A1.out⟩
set_option maxRecDepth 1000000 in
theorem pclone_none {c : Nat} {w : World} : Calls Try.prog 32 #[.slice none 0 c] w fun e w' => e = .returned (.slice none 0 0) ∧ w' = w := by
  have he := fun w => Lib.run_eql_slice_nil (P := Try.prog) w 39 49 none 0 c 0 0 Try.underlying39
  go_enter Try.func32, Try.ntmps32
  go_wp2
  go_ret
  exact ⟨rfl, rfl⟩
theorem pclone_any {v : Value} {ps : List Pk} {cs : List Comp} {w : World} (h : All cs w) (hr : w.ownsRow 0 49 6 v ps.length (flatP ps)) (hn : ps.length ≤ 1024) :
    Calls Try.prog 32 #[v] w fun e w' => ∃ v', e = .returned v' ∧ All (pkC v' ps :: cs) w' := by
  rcases hr.2 with ⟨rfl, e2⟩ | ⟨g, cap, cur, rfl, _⟩
  · refine pclone_none.mono ?_
    rintro e w' ⟨rfl, rfl⟩
    refine ⟨_, rfl, ?_⟩
    obtain rfl : ps = [] := List.length_eq_zero_iff.1 e2
    exact h.addRow0
  · exact pclone_some h hr hn

set_option maxHeartbeats 800000 in
set_option maxRecDepth 1000000 in
/-- Clone. -/
theorem Clone_any {B : Bg} {cs : List Comp} {w : World} (h : All (B.L ++ cs) w) (hn : B.ps.length ≤ 1024) :
    Calls Try.prog 10 #[B.V] w fun e w' => ∃ b v, e = .returned (.pointer (some ⟨b, 0, none⟩)) ∧ All ((Bg.mk b B.r B.l v B.ps).L ++ (B.L ++ cs)) w' := by
  have A0 := h.addBlk [.int .i64 B.r, .int .i64 B.l, B.v] 72
  have hb := All.bagBlk (cs := []) h
  have C := hid (pclone_any A0 (A0.tail.tail.1.2.1) hn)
  have t0 : w.cell? ⟨B.b, 0, none⟩ = some (.int .i64 B.r) := by rw [cell_at hb]; rfl
  have t1 : w.cell? ⟨B.b, 1, none⟩ = some (.int .i64 B.l) := by rw [cell_at hb]; rfl
  have t2 : w.cell? ⟨B.b, 2, none⟩ = some B.v := by rw [cell_at hb]; rfl
  obtain ⟨ao, c, hv, hc⟩ := h.bagForm
  have hbl : B.b < w.heap.size := (Array.getElem?_eq_some_iff.1 hb).1
  have hb1 : B.b ≠ w.heap.size := by omega
  have hb2 : w.heap.size ≠ B.b := by omega
  clear A0 hb h
  obtain ⟨b, r, l, v, ps⟩ := B
  simp only at hv hc hn t0 t1 t2 hbl hb1 hb2
  subst hv
  have C : Hid (Calls Try.prog 32 #[.slice ao ps.length c] (w.alloc (.cells #[.int .i64 r, .int .i64 l, .slice ao ps.length c] 72)) (fun e w' => ∃ v', e = .returned v' ∧ All (pkC v' ps :: blkC w.heap.size [.int .i64 r, .int .i64 l, .slice ao ps.length c] 72 :: blkC b [.int .i64 r, .int .i64 l, .slice ao ps.length c] 72 :: pkC (.slice ao ps.length c) ps :: cs) w')) := C
  show Calls Try.prog 10 #[.pointer (some ⟨b, 0, none⟩)] w (fun e w' => ∃ b' v', e = .returned (.pointer (some ⟨b', 0, none⟩)) ∧ All (blkC b' [.int .i64 r, .int .i64 l, v'] 72 :: pkC v' ps :: blkC b [.int .i64 r, .int .i64 l, .slice ao ps.length c] 72 :: pkC (.slice ao ps.length c) ps :: cs) w')
  obtain ⟨n, hnn⟩ : ∃ n, Hid (n = ps.length) := ⟨_, hid rfl⟩
  rw [← hnn.out] at t2 C hc hn ⊢
  go_enter Try.func10, Try.ntmps10
  go_wp2_with (fail)
  refine C.out.mono ?_
  rintro e w1 ⟨v', rfl, A1⟩
  obtain ⟨ao', c', hv', hc'⟩ := owns6_form A1.1.2.1
  rw [← hnn.out] at hv' hc'
  subst hv'
  have t3 : w1.cell? ⟨w.heap.size, 2, none⟩ = some (.slice ao n c) := by rw [cell_at A1.tail.1.2.1]; rfl
  have f3 : w1.frozen? ⟨w.heap.size, 2, none⟩ = false := free_at A1.tail.1.2.1 2
  have A2 : Hid (All (blkC w.heap.size [.int .i64 r, .int .i64 l, .slice ao' n c'] 72 :: pkC (.slice ao' n c') ps :: _) _) := hid (A1.swap.setBlk 2 (.slice ao' n c'))
  clear A1 C
  go_wp2
  go_ret
  exact ⟨_, _, rfl, A2.out⟩
end Go.Proofs.Ytpfpamkbahgkpaa

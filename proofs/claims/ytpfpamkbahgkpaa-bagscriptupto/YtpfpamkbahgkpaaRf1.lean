import Derived.Test.YtpfpamkbahgkpaaLaw3
namespace Go.Proofs.Ytpfpamkbahgkpaa
open Go.RowKit
set_option linter.unusedVariables false

/-- The document's bag. -/
abbrev Bg.M (B : Bg) : List Comp := [blkC B.b [.int .i64 B.r, .int .i64 B.l, B.v] 75, pkC B.v B.ps]
theorem All.docForm {B : Bg} {cs : List Comp} {w : World} (h : All (B.M ++ cs) w) : ∃ ao c, B.v = .slice ao B.ps.length c ∧ B.ps.length ≤ c := owns6_form (h.tail.1.2.1 : w.ownsRow 0 49 6 B.v B.ps.length (flatP B.ps))
theorem All.docBlk {B : Bg} {cs ds : List Comp} {w : World} (h : All (cs ++ (B.M ++ ds)) w) : w.heap[B.b]? = some (.cells #[.int .i64 B.r, .int .i64 B.l, B.v] 75 (0, 0)) :=
  (h.mem (c := blkC B.b [.int .i64 B.r, .int .i64 B.l, B.v] 75) (by simp)).2.1
theorem All.docRow {B : Bg} {cs ds : List Comp} {w : World} (h : All (cs ++ (B.M ++ ds)) w) : w.ownsRow 0 49 6 B.v B.ps.length (flatP B.ps) :=
  (h.mem (c := pkC B.v B.ps) (by simp)).2.1

set_option maxRecDepth 1000000 in
theorem rend_any (k : Int) (w : World) : Calls Try.prog 55 #[.int .i64 k] w fun e w' => e = .returned (.bool (endB k)) ∧ w' = w := by
  have key : ∀ b, endB k = b → Hid (endB k = b) := fun b h => h
  by_cases h0 : 0 ≤ k
  · by_cases h7 : k < 7
    · have H := key true (decide_eq_true (by omega))
      clear key
      go_enter Try.func55, Try.ntmps55
      go_wp2
      go_ret
      exact ⟨by rw [H.out]; rfl, rfl⟩
    · by_cases h8 : 8 ≤ k
      · by_cases h16 : k < 16
        · have H := key true (decide_eq_true (by omega))
          clear key
          go_enter Try.func55, Try.ntmps55
          go_wp2
          go_ret
          exact ⟨by rw [H.out]; rfl, rfl⟩
        · have H := key false (decide_eq_false (by omega))
          clear key
          go_enter Try.func55, Try.ntmps55
          go_wp2
          go_ret
          exact ⟨by rw [H.out]; rfl, rfl⟩
      · have H := key false (decide_eq_false (by omega))
        clear key
        go_enter Try.func55, Try.ntmps55
        go_wp2
        go_ret
        exact ⟨by rw [H.out]; rfl, rfl⟩
  · have H := key false (decide_eq_false (by omega))
    clear key
    have h8 : ¬ 8 ≤ k := by omega
    go_enter Try.func55, Try.ntmps55
    go_wp2
    go_ret
    exact ⟨by rw [H.out]; rfl, rfl⟩
set_option maxRecDepth 1000000 in
theorem rNew_no {r : Int} {w : World} (h : ¬ (1 ≤ r ∧ r ≤ 1024)) : Calls Try.prog 31 #[.int .i64 r] w fun e w' => e = .returned (.tuple #[.pointer none, .int .i64 150]) ∧ w' = w := by
  by_cases h1 : r < 1
  · clear h
    go_enter Try.func31, Try.ntmps31
    go_wp2
    go_ret2
    exact ⟨rfl, rfl⟩
  · have h2 : 1024 < r := by omega
    clear h
    go_enter Try.func31, Try.ntmps31
    go_wp2
    go_ret2
    exact ⟨rfl, rfl⟩
set_option maxRecDepth 1000000 in
theorem rNew_ok {r : Int} {cs : List Comp} {w : World} (h : All cs w) (h1 : 1 ≤ r) (h2 : r ≤ 1024) : Calls Try.prog 31 #[.int .i64 r] w fun e w' => ∃ b, e = .returned (.tuple #[.pointer (some ⟨b, 0, none⟩), .int .i64 0]) ∧ All ((Bg.mk b r 0 (.slice none 0 0) []).M ++ cs) w' := by
  have A := hid ((All.addRow0 (e := 49) (size := 6) h).addBlk [.int .i64 r, .int .i64 0, .slice none 0 0] 75)
  clear h
  have h1' : ¬ r < 1 := by omega
  have h2' : ¬ 1024 < r := by omega
  go_enter Try.func31, Try.ntmps31
  go_wp2
  go_ret2
  exact ⟨_, rfl, A.out⟩
set_option maxRecDepth 1000000 in
theorem rLen_any {B : Bg} {cs : List Comp} {w : World} (h : All (B.M ++ cs) w) (hn : B.ps.length ≤ 140737488355328) : Calls Try.prog 40 #[B.V] w fun e w' => e = .returned (.int .i64 (B.ps.length : Int)) ∧ w' = w := by
  obtain ⟨ao, c, hv, hc⟩ := h.docForm
  have t2 : w.cell? ⟨B.b, 2, none⟩ = some B.v := by rw [cell_at h.1.2.1]; rfl
  rw [hv] at t2
  clear h hv
  obtain ⟨b, r, l, v, ps⟩ := B
  simp only at t2 hc hn
  generalize ps.length = n at *
  go_enter Try.func40, Try.ntmps40
  go_wp2
  go_ret
  exact ⟨rfl, rfl⟩

/-- A copy of bytes by an append. -/
theorem app_data {cs : List Comp} {W : World} {s : Value} {l : List UInt8} (h : All cs W) (hr : Reads W s l) (hl : l.length ≤ 140737488355328) :
    ∃ ao c w', (Builtin.append_ #[31, 31] 31 #[.slice (some ⟨W.heap.size, 0, none⟩) 0 0, s]).run Try.prog (W.alloc (.cells #[] 5)) = .ok (.slice ao l.length c) w' ∧ All (byC (.slice ao l.length c) l :: cs) w' := by
  obtain ⟨i1, hi1, hz0, hz1, hz2⟩ := info_parts Try.info5
  have A0 : All (ownC 5 (.slice (some ⟨W.heap.size, 0, none⟩) 0 0) [] :: cs) (W.alloc (.cells #[] 5)) := h.addOwn (ba W _) (owns_empty W)
  obtain ⟨ao, c, hf, hcl, hcase⟩ := hr
  subst hf
  have key : ∀ a : Addr, (∀ j u, (cellsB l)[j]? = some u → (W.alloc (.cells #[] 5)).cell? (a.add j) = some u) → ∃ ao' c' w', (Builtin.append_ #[31, 31] 31 #[.slice (some ⟨W.heap.size, 0, none⟩) 0 0, .slice (some a) l.length c]).run Try.prog (W.alloc (.cells #[] 5)) = .ok (.slice ao' l.length c') w' ∧ All (byC (.slice ao' l.length c') l :: cs) w' := by
    intro a hcell
    obtain ⟨v', w', hrun, h2, h3, h4, h5⟩ := run_append_own_at (P := Try.prog) (W.alloc (.cells #[] 5)) 0 31 31 5 i1 (.int .u8 0) 1 1 Try.underlying31 hi1 hz0 hz1 hz2 rfl (by decide) (.slice (some ⟨W.heap.size, 0, none⟩) 0 0) 0 [] A0.1.2.1 a l.length c (cellsB l) (by rw [cellsB_length]; omega) hcell (cellsB_one _) (by unfold maxLen; omega) (by omega) (by omega)
    obtain ⟨ao', c', rfl⟩ := owns_form h2
    simp only [Nat.zero_add, List.nil_append] at hrun h2 h5
    exact ⟨ao', c', w', hrun, A0.ownGrow (vs' := cellsB l) (base := 0) (by rw [cellsB_length]; exact h2) h3 h5⟩
  rcases hcase with ⟨rfl, h0⟩ | ⟨g, o, rfl, hg, hcell⟩
  · cases ao with
    | some a => exact key a (fun j u hu => by simp [cellsB] at hu)
    | none =>
      obtain rfl := h0 rfl
      exact ⟨_, _, _, run_append_owned_none (P := Try.prog) (w := W.alloc (.cells #[] 5)) 0 31 31 5 i1 1 Try.underlying31 hi1 (.slice (some ⟨W.heap.size, 0, none⟩) 0 0) 0 [] A0.1.2.1, A0⟩
  · refine key _ (fun j u hu => ?_)
    rw [Addr.add_lit, World.cell?_of_block (w := W) (Below.heap_alloc _ _ _ hg)]
    exact hcell j u hu

/-- A packet whose bytes lie elsewhere. -/
def Pk.to (p : Pk) (ao : Option Addr) (c : Nat) : Pk := { p with ao := ao, c := c }
theorem Pk.ap_to (p : Pk) (ao : Option Addr) (c : Nat) : (p.to ao c).ap = p.ap := rfl

set_option maxHeartbeats 800000 in
set_option maxRecDepth 1000000 in
theorem own_any {p : Pk} {cs : List Comp} {w : World} (h : All cs w) (hr : Reads w p.D p.bs) (hl : p.bs.length ≤ 140737488355328) :
    Calls Try.prog 44 #[p.V] w fun e w' => ∃ ao c, e = .returned (p.to ao c).V ∧ All (byC (p.to ao c).D p.bs :: cs) w' := by
  have A0 : All (blkC (w.heap.size + 1) Pk.zero.cells 49 :: blkC w.heap.size p.cells 49 :: cs) ((w.alloc (.cells p.cells.toArray 49)).alloc (.cells Pk.zero.cells.toArray 49)) := by
    have A2 := (h.addBlk p.cells 49).addBlk Pk.zero.cells 49
    simpa using A2
  have eW : ((w.alloc (.cells #[.int .i64 p.n, .int .i64 p.f, .int .i64 p.t, .int .i64 p.a, .int .i64 p.u, .slice p.ao p.bs.length p.c] 49)).alloc (.cells #[.int .i64 0, .int .i64 0, .int .i64 0, .int .i64 0, .int .i64 0, .slice none 0 0] 49)) = ((w.alloc (.cells p.cells.toArray 49)).alloc (.cells Pk.zero.cells.toArray 49)) := rfl
  obtain ⟨ao, c, w2, hrun, A2⟩ := app_data A0 ((hr.below (ba w _)).below (ba _ _)) hl
  obtain ⟨⟨s1, s2, s3, s4, s5, s6⟩, hf⟩ := pkAt_blk A0.tail
  simp only [Nat.zero_add] at s1 s2 s3 s4 s5 s6
  have hs1 : ((w.alloc (.cells p.cells.toArray 49)).alloc (.cells Pk.zero.cells.toArray 49)).heap.size = w.heap.size + 2 := by simp
  have hlt : w.heap.size < ((w.alloc (.cells p.cells.toArray 49)).alloc (.cells Pk.zero.cells.toArray 49)).heap.size := by rw [hs1]; omega
  clear h hr hs1 A0
  generalize ((w.alloc (.cells p.cells.toArray 49)).alloc (.cells Pk.zero.cells.toArray 49)) = w1 at *
  have R := hid hrun
  have A2 := hid A2
  clear hrun
  go_enter Try.func44, Try.ntmps44
  go_wp2_with (at_builtin; refine wpList_append_run rfl _ _ 31 rfl _ _ _ _ rfl rfl R.out ?_; clear s1 s2 s3 s4 s5 s6 hf; have hq := pkAt_blk (A2.out.tail.tail); have hz := pkAt_blk (A2.out.tail); obtain ⟨⟨s1, s2, s3, s4, s5, s6⟩, hf⟩ := hq; obtain ⟨⟨t1, t2, t3, t4, t5, t6⟩, tf⟩ := hz; simp only [Nat.zero_add] at s1 s2 s3 s4 s5 s6 t1 t2 t3 t4 t5 t6)
  have A3 := hid (All.setBlk (A2.out.perm (perm3 _ _ _ _)) 5 (.slice ao p.bs.length c))
  have A4 : Hid (All (blkC (w.heap.size + 1) (p.to ao c).cells 49 :: byC (p.to ao c).D p.bs :: cs) ((w2.setCell ⟨w.heap.size, 5, none⟩ (.slice ao p.bs.length c)).setCells (w.heap.size + 1) 0 (p.to ao c).cells)) := hid (All.setBlks (p.to ao c).cells Pk.zero.cells _ 0 (A3.out.tail))
  rw [set6] at A4
  simp only [Nat.zero_add] at A4
  refine ret_pk (fn := Try.f44) (b := w.heap.size + 1) (x := p.to ao c) rfl rfl A4.out.1.2.1 rfl ?_
  exact ⟨ao, c, rfl, A4.out.tail⟩
end Go.Proofs.Ytpfpamkbahgkpaa

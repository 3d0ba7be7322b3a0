import Derived.Test.YtagdpfghooogfaaXTell
import Derived.Test.YtagdpfghooogfaaArgs
import Derived.Deep.DeepCutAuto
namespace Go.Proofs.Ytagdpfghooogfaa
open Go.RowKit
set_option linter.unusedVariables false

theorem Try.info35 : (Try.prog.info? 35).map (fun i => (i.zero, i.size, i.bytes)) = some (some (.slice none 0 0), 1, 24) := by kernel_rfl
theorem Try.info40' : (Try.prog.info? 40).map (fun i => (i.zero, i.size, i.bytes)) = some (some (.slice none 0 0), 1, 24) := by kernel_rfl

/-- The program's roll and the document's, side by side. -/
structure Twin (ps qs : List Pl) : Prop where
  okp : OkP ps
  okq : OkP qs
  same : ∀ c, (atP qs c).on = (atP ps c).on ∧ (atP qs c).n = (atP ps c).n ∧ (atP qs c).a = (atP ps c).a ∧ (atP qs c).c = (atP ps c).c ∧ (atP qs c).k = (atP ps c).k ∧ (atP qs c).l = (atP ps c).l

theorem Twin.bytes {ps qs : List Pl} (h : Twin ps qs) (c : Int) : (atP qs c).bytes = (atP ps c).bytes := by
  obtain ⟨h1, h2, h3, h4, h5, h6⟩ := h.same c
  unfold Pl.bytes
  rw [h1, h2, h3, h4, h5, h6]

/-- Pieces in another order. -/
theorem perm_by (n : Nat) (ls : List (List Comp)) (σ : List Nat) (hn : ls.length = n) (h : σ.Perm (List.range n)) : ls.flatten.Perm (σ.map fun i => ls.getD i []).flatten := by
  subst hn
  have h1 : ls = (List.range ls.length).map fun i => ls.getD i [] := by
    refine List.ext_getElem (by simp) fun i h1 h2 => ?_
    simp [List.getD, h1]
  have h2 := (h.map fun i => ls.getD i []).flatten
  rw [← h1] at h2
  exact h2.symm

theorem perm_two (X R1 R2 cs : List Comp) : (X ++ (R1 ++ (R2 ++ cs))).Perm (R2 ++ (X ++ (R1 ++ cs))) := by
  have h := List.perm_append_comm_assoc (X ++ R1) R2 cs
  simpa [List.append_assoc] using h

/-- A book: its block, and the rows of the lists that were handed out. -/
def bookC (b : Nat) (vi : Value) (is : List Value) (vt : Value) (ts : List Value) : List Comp := [blkC b [vi, vt] 34, ownC 35 vi is, ownC 40 vt ts]

set_option maxHeartbeats 3200000 in
set_option maxRecDepth 1000000 in
/-- Book.bytes. -/
theorem kbytes_any {b g h : Nat} {vi vt : Value} {is ts : List Value} {ps qs : List Pl} {cs : List Comp} {w : World} (tw : Twin ps qs) (hA : All (rollL g ps ++ (xrollL h qs ++ (bookC b vi is vt ts ++ cs))) w) (hts : ts.length ≤ 100000) (cl : Int) :
    Calls Try.prog 16 #[.pointer (some ⟨b, 0, none⟩), .pointer (some ⟨g, 0, none⟩), .pointer (some ⟨h, 0, none⟩), .int .i64 cl] w fun e w' => e = .returned (.bool true) ∧ ∃ (vt' x1 : Value) (l1 : List UInt8) (y1 : Value) (l2 : List UInt8), Hid (All (rollL g ps ++ (xrollL h qs ++ (bookC b vi is vt' (ts ++ [x1, y1]) ++ (bpart (x1, l1) :: bpart (y1, l2) :: cs)))) w') := by
  have HT := hid tw
  obtain ⟨B, hB⟩ : ∃ B, Hid (B = (atP ps cl).bytes) := ⟨_, hid rfl⟩
  obtain ⟨nB, hnB⟩ : ∃ nB, Hid (nB = B.length) := ⟨_, hid rfl⟩
  obtain ⟨i0, hi, hz0, hz1, hz2⟩ := info_parts Try.info40'
  have C1 := hid (tell_any hA tw.okp cl)
  rw [← hB.out, ← hnB.out] at C1
  obtain ⟨D, hD⟩ : ∃ D, Hid (D = bookC b vi is vt ts ++ cs) := ⟨_, hid rfl⟩
  rw [← hD.out] at C1
  clear hA tw
  go_enter Try.func16, Try.ntmps16
  go_wp2_with fail
  refine C1.out.mono ?_
  rintro e w1 ⟨so1, sc1, rfl, A1⟩
  have A1 := hid (A1.perm (List.perm_append_comm_assoc [_] (rollL g ps) (xrollL h qs ++ D)))
  have C2 := hid (tell_any A1.out HT.out.okp cl)
  rw [← hB.out, ← hnB.out] at C2
  clear C1
  go_wp2_with fail
  refine C2.out.mono ?_
  rintro e w2 ⟨so2, sc2, rfl, A2⟩
  have A2 := hid (A2.perm (show List.Perm (ownC 5 (.slice so2 nB sc2) (cellsB B) :: (rollL g ps ++ ([ownC 5 (.slice so1 nB sc1) (cellsB B)] ++ (xrollL h qs ++ D)))) (xrollL h qs ++ ((ownC 5 (.slice so2 nB sc2) (cellsB B) :: (rollL g ps ++ [ownC 5 (.slice so1 nB sc1) (cellsB B)])) ++ D)) from by
    have h1 := List.perm_append_comm_assoc (ownC 5 (.slice so2 nB sc2) (cellsB B) :: (rollL g ps ++ [ownC 5 (.slice so1 nB sc1) (cellsB B)])) (xrollL h qs) D
    simpa [List.append_assoc] using h1))
  have C3 := hid (xtell_any A2.out HT.out.okq cl)
  rw [HT.out.bytes cl, ← hB.out, ← hnB.out] at C3
  clear C2 A1
  go_wp2_with fail
  refine C3.out.mono ?_
  rintro e w3 ⟨so3, sc3, rfl, A3⟩
  have A3 := hid A3
  have RD : Hid (∀ (W : World) (ds : List Comp) (so : Option Addr) (sc : Nat), All ds W → ownC 5 (.slice so nB sc) (cellsB B) ∈ ds → Reads W (.slice so nB sc) B) := hid (fun W ds so sc hW hm => Reads.of_owns (base := 0) (by
    have hh : W.ownsRow 0 5 1 (.slice so nB sc) (cellsB B).length (cellsB B) := (hW.mem hm).2.1
    rw [cellsB_length] at hh; exact hh))
  have C4 := same_any (RD.out w3 _ so1 sc1 A3.out (by simp)) (RD.out w3 _ so3 sc3 A3.out (by simp))
  have C5 := same_any (RD.out w3 _ so2 sc2 A3.out (by simp)) (RD.out w3 _ so3 sc3 A3.out (by simp))
  rw [show decide (B = B) = true by simp] at C4 C5
  have C4 := hid C4
  have C5 := hid C5
  clear C3 A2 RD
  go_wp2_with fail
  refine C4.out.mono ?_
  rintro e w4 ⟨rfl, rfl⟩
  go_wp2_with fail
  refine C5.out.mono ?_
  rintro e w5 ⟨rfl, rfl⟩
  clear C4 C5
  have A6 : All (ownC 40 vt ts :: blkC b [vi, vt] 34 :: ownC 35 vi is :: (rollL g ps ++ (xrollL h qs ++ (bpart (.slice so1 nB sc1, B) :: bpart (.slice so2 nB sc2, B) :: cs)))) w5 := by
    have A5 := A3.out.tail
    rw [hD.out] at A5
    refine A5.perm ?_
    have := perm_by 8 [xrollL h qs, [ownC 5 (.slice so2 nB sc2) (cellsB B)], rollL g ps, [ownC 5 (.slice so1 nB sc1) (cellsB B)], [blkC b [vi, vt] 34], [ownC 35 vi is], [ownC 40 vt ts], cs] [6, 4, 5, 2, 0, 3, 1, 7] rfl (by decide)
    simpa [bookC, bpart, List.getD] using this
  obtain ⟨tq, tc, rfl⟩ := owns_form (show w5.ownsRow 0 40 1 vt ts.length ts from A6.1.2.1)
  have A7 := hid (A6.alloc (.cells #[.slice so1 nB sc1, .slice so2 nB sc2] 40))
  have erx : w5.heap[b]? = some (.cells #[vi, .slice tq ts.length tc] 34 (0, 0)) := A6.tail.1.2.1
  have x0 : w5.cell? ⟨b, 0, none⟩ = some (vi) := by rw [cell_at erx]; rfl
  have x1 : w5.cell? ⟨b, 1, none⟩ = some (.slice tq ts.length tc) := by rw [cell_at erx]; rfl
  have fx1 : w5.frozen? ⟨b, 1, none⟩ = false := free_at erx 1
  clear erx
  have hbl : b < w5.heap.size := World.block_lt_of_cell? w5 _ x0
  have hrow : (w5.alloc (.cells #[.slice so1 nB sc1, .slice so2 nB sc2] 40)).ownsRow 0 40 1 (.slice tq ts.length tc) ts.length ts := A7.out.1.2.1
  have hnews : ∀ j u, [.slice so1 nB sc1, .slice so2 nB sc2][j]? = some u → (w5.alloc (.cells #[.slice so1 nB sc1, .slice so2 nB sc2] 40)).cell? ((⟨w5.heap.size, 0, none⟩ : Addr).add j) = some u := by
    intro j u hu
    rw [Addr.add_lit, cell_at (heap_alloc_new w5 _)]
    match j with
    | 0 => simpa using hu
    | 1 => simpa using hu
    | j + 2 => simp at hu
  have hone : ∀ u ∈ [Value.slice so1 nB sc1, Value.slice so2 nB sc2], u.oneCell' = true := by
    intro u hu
    simp only [List.mem_cons, List.not_mem_nil, or_false] at hu
    rcases hu with rfl | rfl <;> rfl
  obtain ⟨nt, hnt⟩ : ∃ nt, Hid (nt = ts.length) := ⟨_, hid rfl⟩
  have hnt5 : nt ≤ 100000 := by rw [hnt.out]; exact hts
  rw [← hnt.out] at A7 x1 hrow
  clear A6 A3 hts hD
  go_wp2_with (at_builtin; refine wpList_append_own_at _ rfl (.tmp 33) (.tmp 36) 32 rfl 0 40 i0 (.slice none 0 0) 1 24 Try.underlying32 hi hz0 hz1 hz2 rfl (by decide) _ _ _ rfl hrow ⟨w5.heap.size, 0, none⟩ 2 2 [.slice so1 nB sc1, .slice so2 nB sc2] rfl rfl hnews hone (by unfold maxLen; omega) (by omega) (by simp) ?_)
  intro v' w6 hown hgr _ hat
  have A8 := A7.out.ownGrow (vs' := ts ++ [.slice so1 nB sc1, .slice so2 nB sc2]) (base := 0) (v' := v') (by
    rw [List.length_append, ← hnt.out]
    exact hown) hgr (by simpa using hat)
  obtain ⟨tq', tc', rfl⟩ := owns_form hown
  have A8 := hid A8
  clear hown hgr hat A7 hrow hnews hone x0 x1 fx1
  have erx : w6.heap[b]? = some (.cells #[vi, .slice tq nt tc] 34 (0, 0)) := A8.out.tail.1.2.1
  have x0 : w6.cell? ⟨b, 0, none⟩ = some (vi) := by rw [cell_at erx]; rfl
  have x1 : w6.cell? ⟨b, 1, none⟩ = some (.slice tq nt tc) := by rw [cell_at erx]; rfl
  have fx1 : w6.frozen? ⟨b, 1, none⟩ = false := free_at erx 1
  clear erx
  have A9 := hid (A8.out.swap.setBlk 1 (.slice tq' (nt + 2) tc'))
  clear A8
  go_wp2
  go_ret
  refine ⟨rfl, .slice tq' (nt + 2) tc', .slice so1 nB sc1, B, .slice so2 nB sc2, B, hid ?_⟩
  have := perm_by 8 [[blkC b [vi, .slice tq' (nt + 2) tc'] 34], [ownC 40 (.slice tq' (nt + 2) tc') (ts ++ [.slice so1 nB sc1, .slice so2 nB sc2])], [ownC 35 vi is], rollL g ps, xrollL h qs, [bpart (.slice so1 nB sc1, B)], [bpart (.slice so2 nB sc2, B)], cs] [3, 4, 0, 2, 1, 5, 6, 7] rfl (by decide)
  refine A9.out.perm ?_
  simpa [bookC, List.getD] using this
end Go.Proofs.Ytagdpfghooogfaa

import Derived.Test.YtpfpamkbahgkpaaRf5
namespace Go.Proofs.Ytpfpamkbahgkpaa
open Go.RowKit
set_option linter.unusedVariables false

theorem take_erase_ne {ps : List Pk} {i k : Nat} {p : Pk} (h : ps[i]? = some p) (hne : i ≠ k) : (ps.take (i + 1)).eraseIdx k = (ps.take i).eraseIdx k ++ [p] := by
  obtain ⟨hi, e⟩ := List.getElem?_eq_some_iff.1 h
  have hl : (ps.take i).length = i := by rw [List.length_take, Nat.min_eq_left (by omega)]
  rw [List.take_succ_eq_append_getElem hi, e]
  by_cases hk : k < i
  · rw [List.eraseIdx_append_of_lt_length (by omega)]
  · rw [List.eraseIdx_append_of_length_le (by omega), List.eraseIdx_of_length_le (by rw [hl]; simp; omega), List.eraseIdx_of_length_le (by omega)]
theorem take_erase_eq {ps : List Pk} {k : Nat} (hk : k < ps.length) : (ps.take (k + 1)).eraseIdx k = (ps.take k).eraseIdx k := by
  have hl : (ps.take k).length = k := by rw [List.length_take, Nat.min_eq_left (by omega)]
  rw [List.take_succ_eq_append_getElem hk, List.eraseIdx_append_of_length_le (by omega), List.eraseIdx_of_length_le (l := ps.take k) (by omega), hl, Nat.sub_self]
  simp

set_option maxHeartbeats 800000 in
set_option maxRecDepth 1000000 in
theorem rTake_no {B : Bg} {k : Int} {cs : List Comp} {w : World} (h : All (B.M ++ cs) w) (hn : B.ps.length ≤ 1024) (hk : hasB k B.ps.length = false) : Calls Try.prog 34 #[B.V, .int .i64 k] w fun e w' => e = .returned (.tuple #[Pk.zero.V, .int .i64 152]) ∧ Below w.heap.size w w' := by
  have hk2 := has_no hk
  obtain ⟨ao, c, hv, t0, t1, t2⟩ := doc_pre h
  have hbl := h.1.2.2 B.b (by simp [blkC])
  clear hk hv h
  obtain ⟨b, r, l, v, ps⟩ := B
  simp only at hn hk2 t2 t0 t1 hbl
  show Calls Try.prog 34 #[.pointer (some ⟨b, 0, none⟩), .int .i64 k] w _
  generalize ps.length = m at *
  have fin : ∀ (w9 : World), w9 = w.alloc (.cells #[.int .i64 0, .int .i64 0, .int .i64 0, .int .i64 0, .int .i64 0, .slice none 0 0] 49) → w9.heap[w.heap.size]? = some (.cells Pk.zero.cells.toArray 49 (0, 0)) ∧ Below w.heap.size w w9 := by
    rintro w9 rfl
    exact ⟨heap_alloc_new w _, ba w _⟩
  have FIN := hid fin
  clear fin
  have n1 : b ≠ w.heap.size := by omega
  by_cases h0 : k < 0
  · clear hk2
    go_enter Try.func34, Try.ntmps34
    go_wp2
    refine ret_pkB (fn := Try.f34) (b := w.heap.size) (x := Pk.zero) rfl rfl rfl (FIN.out _ rfl).1 rfl ?_
    exact ⟨rfl, (FIN.out _ rfl).2⟩
  · have h1 : (m : Int) ≤ k := by omega
    clear hk2
    go_enter Try.func34, Try.ntmps34
    go_wp2
    refine ret_pkB (fn := Try.f34) (b := w.heap.size) (x := Pk.zero) rfl rfl rfl (FIN.out _ rfl).1 rfl ?_
    exact ⟨rfl, (FIN.out _ rfl).2⟩

set_option maxHeartbeats 1600000 in
set_option maxRecDepth 1000000 in
theorem rTake_yes {B : Bg} {k : Nat} {p : Pk} {cs : List Comp} {w : World} (h : All (B.M ++ cs) w) (hn : B.ps.length ≤ 1024) (hp : B.ps[k]? = some p) (hr : Reads w p.D p.bs) (hl : p.bs.length ≤ 140737488355328) : Calls Try.prog 34 #[B.V, .int .i64 (k : Int)] w fun e w' => ∃ a2 c2 v, e = .returned (.tuple #[(p.to a2 c2).V, .int .i64 0]) ∧ All (byC (p.to a2 c2).D p.bs :: ((Bg.mk B.b B.r B.l v (B.ps.eraseIdx k)).M ++ cs)) w' := by
  have hi : k < B.ps.length := (List.getElem?_eq_some_iff.1 hp).1
  have A0 := h.addBlk Pk.zero.cells 49
  have hr := hr.below (ba w (.cells Pk.zero.cells.toArray 49))
  obtain ⟨g, c, hv, hg, hrg, _⟩ := row_at (All.docRow (cs := [blkC w.heap.size Pk.zero.cells 49]) A0) hp
  have hb := All.docBlk (cs := [blkC w.heap.size Pk.zero.cells 49]) A0
  rw [hv] at hb
  have F := hid (own_any (p := p) A0 hr hl)
  have t2 : (w.alloc (.cells Pk.zero.cells.toArray 49)).cell? ⟨B.b, 2, none⟩ = some (.slice (some ⟨g, 0, none⟩) B.ps.length c) := by rw [cell_at hb]; rfl
  obtain ⟨s1, s2, s3, s4, s5, s6⟩ := pkAt_of hrg
  have eW : w.alloc (.cells #[.int .i64 0, .int .i64 0, .int .i64 0, .int .i64 0, .int .i64 0, .slice none 0 0] 49) = w.alloc (.cells Pk.zero.cells.toArray 49) := rfl
  obtain ⟨b, r, l, v, ps⟩ := B
  simp only at hv hn hp hi t2
  subst hv
  obtain ⟨n, hnn⟩ : ∃ n, Hid (n = ps.length) := ⟨_, hid rfl⟩
  have F : Hid (Calls Try.prog 44 #[p.V] (w.alloc (.cells Pk.zero.cells.toArray 49)) (fun e w' => ∃ ao c2, e = .returned (p.to ao c2).V ∧ All (byC (p.to ao c2).D p.bs :: blkC w.heap.size Pk.zero.cells 49 :: blkC b [.int .i64 r, .int .i64 l, .slice (some ⟨g, 0, none⟩) n c] 75 :: pkC (.slice (some ⟨g, 0, none⟩) ps.length c) ps :: cs) w')) := by rw [hnn.out]; exact F
  have HP := hid hp
  have HI := hid hi
  clear h hb hp hrg hr A0
  rw [← hnn.out] at t2 hi hn
  have hii : (k : Int) < (n : Int) := by omega
  have h0' : ¬ (k : Int) < 0 := by omega
  have h1' : ¬ (n : Int) ≤ (k : Int) := by omega
  show Calls Try.prog 34 #[.pointer (some ⟨b, 0, none⟩), .int .i64 (k : Int)] w (fun e w' => ∃ a2 c2 v, e = .returned (.tuple #[(p.to a2 c2).V, .int .i64 0]) ∧ All (byC (p.to a2 c2).D p.bs :: blkC b [.int .i64 r, .int .i64 l, v] 75 :: pkC v (ps.eraseIdx k) :: cs) w')
  go_enter Try.func34, Try.ntmps34
  go_wp2_with fail
  refine F.out.mono ?_
  rintro e w2 ⟨a2, c2, rfl, A2⟩
  clear F s1 s2 s3 s4 s5 s6 t2 eW hg
  obtain ⟨R, hR⟩ : ∃ R, Hid (R = blkC w2.heap.size (p.to a2 c2).cells 49 :: byC (p.to a2 c2).D p.bs :: blkC w.heap.size Pk.zero.cells 49 :: blkC b [.int .i64 r, .int .i64 l, .slice (some ⟨g, 0, none⟩) n c] 75 :: pkC (.slice (some ⟨g, 0, none⟩) ps.length c) ps :: cs) := ⟨_, hid rfl⟩
  have A3 : Hid (All (pkC (.slice (some ⟨w2.heap.size + 1, 0, none⟩) 0 0) [] :: R) ((w2.alloc (.cells (p.to a2 c2).cells.toArray 49)).alloc (.cells #[] 49))) := hid (by
    rw [hR.out]
    have := (A2.addBlk (p.to a2 c2).cells 49).addMade
    rw [show (w2.alloc (.cells (p.to a2 c2).cells.toArray 49)).heap.size = w2.heap.size + 1 by simp] at this
    exact this)
  have RX : Hid (∀ X W, All (X ++ R) W → W.cell? ⟨b, 2, none⟩ = some (.slice (some ⟨g, 0, none⟩) n c) ∧ W.ownsRow 0 49 6 (.slice (some ⟨g, 0, none⟩) ps.length c) ps.length (flatP ps)) := hid (fun X W A => by
    rw [hR.out] at A
    exact ⟨by rw [cell_at (A.mem (c := blkC b [.int .i64 r, .int .i64 l, .slice (some ⟨g, 0, none⟩) n c] 75) (by simp)).2.1]; rfl, (A.mem (c := pkC (.slice (some ⟨g, 0, none⟩) ps.length c) ps) (by simp)).2.1⟩)
  have t2 := (RX.out _ _ (show All ([pkC (.slice (some ⟨w2.heap.size + 1, 0, none⟩) 0 0) []] ++ R) _ from A3.out)).1
  have eX : Hid ((w2.alloc (.cells #[.int .i64 (p.to a2 c2).n, .int .i64 (p.to a2 c2).f, .int .i64 (p.to a2 c2).t, .int .i64 (p.to a2 c2).a, .int .i64 (p.to a2 c2).u, .slice (p.to a2 c2).ao (p.to a2 c2).bs.length (p.to a2 c2).c] 49)).alloc (.cells #[] 49) = (w2.alloc (.cells (p.to a2 c2).cells.toArray 49)).alloc (.cells #[] 49)) := hid rfl
  clear A2
  go_wp2
  go_loopw [7, 8] (fun ov iv wr => ∃ (i j : Nat) (oa : Option Addr) (oc : Nat), i ≤ n ∧ j ≤ i ∧ iv = .int .i64 (i : Int) ∧ ov = .slice oa j oc ∧ Hid (j = ((ps.take i).eraseIdx k).length ∧ All (pkC (.slice oa j oc) ((ps.take i).eraseIdx k) :: R) wr)) (fun _ iv _ => n - (intOf iv).toNat)
  case atStart =>
    refine ⟨0, 0, _, _, by omega, by omega, rfl, rfl, hid ⟨by simp, ?_⟩⟩
    rw [List.take_zero, List.eraseIdx_nil]
    exact A3.out
  case round =>
    clear A3 t2
    obtain ⟨i, j, oa, oc, hin, hji, rfl, rfl, A⟩ := hrel
    obtain ⟨hjl, A1⟩ := A.out
    obtain ⟨t2, tr⟩ := RX.out [pkC (.slice oa j oc) ((ps.take i).eraseIdx k)] wr A1
    by_cases hlt : i < n
    · have hlt' := hlt
      rw [hnn.out] at hlt'
      have hiin : (i : Int) < (n : Int) := by omega
      by_cases hik : i = k
      · have b1 : ((i : Int) != (k : Int)) = false := by simp [hik]
        have A2 : Hid (j = ((ps.take (i + 1)).eraseIdx k).length ∧ All (pkC (.slice oa j oc) ((ps.take (i + 1)).eraseIdx k) :: R) wr) := hid (by
          have e : (ps.take (i + 1)).eraseIdx k = (ps.take i).eraseIdx k := by rw [hik]; exact take_erase_eq HI.out
          rw [e]; exact A.out)
        have HK := hid hik
        clear A A1 tr hjl hlt' hik
        go_wp2
        go_roundw
        case rel => exact ⟨i + 1, j, oa, oc, by omega, by omega, by go_num, rfl, A2⟩
        case measure => simp [intOf]; omega
      · have b1 : ((i : Int) != (k : Int)) = true := by simp; omega
        obtain ⟨q, hq⟩ : ∃ q, ps[i]? = some q := ⟨_, List.getElem?_eq_getElem hlt'⟩
        obtain ⟨g', c', hv2, hg, hrg, hfz⟩ := row_at tr hq
        simp only [Value.slice.injEq, Option.some.injEq, Addr.mk.injEq, and_true] at hv2
        obtain ⟨rfl, -, -⟩ := hv2
        obtain ⟨s1, s2, s3, s4, s5, s6⟩ := pkAt_of hrg
        obtain ⟨a3, k3, w3, hrun, A3⟩ := app_one (W := wr.alloc (.cells q.cells.toArray 49)) (K := wr.heap.size) (x := q) (l := (ps.take i).eraseIdx k) (v := .slice oa j oc) (A1.alloc _) (heap_alloc_new wr _) (by rw [← hjl]; omega)
        rw [← hjl] at hrun A3
        have A2 : Hid (j + 1 = ((ps.take (i + 1)).eraseIdx k).length ∧ All (pkC (.slice a3 (j + 1) k3) ((ps.take (i + 1)).eraseIdx k) :: R) w3) := hid (by
          rw [take_erase_ne hq hik]
          exact ⟨by rw [List.length_append, ← hjl]; rfl, A3⟩)
        have RR := hid hrun
        have HK := hid hik
        clear A A1 A3 tr hjl hlt' hik hq hrg hfz hrun
        go_wp2_with (at_builtin; refine wpList_append_run rfl _ _ 39 rfl _ _ _ _ rfl rfl RR.out ?_)
        go_roundw
        case rel => exact ⟨i + 1, j + 1, a3, k3, by omega, by omega, by go_num, rfl, A2⟩
        case measure => simp [intOf]; omega
    · have hin' : i = n := by omega
      have A2 := A1
      rw [hin', hnn.out, List.take_length, hR.out] at A2
      have A4 : All (blkC w2.heap.size (p.to a2 c2).cells 49 :: blkC w.heap.size Pk.zero.cells 49 :: blkC b [.int .i64 r, .int .i64 l, .slice (some ⟨g, 0, none⟩) n c] 75 :: byC (p.to a2 c2).D p.bs :: pkC (.slice oa j oc) (ps.eraseIdx k) :: cs) wr := (A2.perm (by
        have := perm_by 7 [[pkC (.slice oa j oc) (ps.eraseIdx k)], [blkC w2.heap.size (p.to a2 c2).cells 49], [byC (p.to a2 c2).D p.bs], [blkC w.heap.size Pk.zero.cells 49], [blkC b [.int .i64 r, .int .i64 l, .slice (some ⟨g, 0, none⟩) n c] 75], [pkC (.slice (some ⟨g, 0, none⟩) ps.length c) ps], cs] [5, 1, 3, 4, 2, 0, 6] rfl (by decide)
        rw [← hnn.out]
        rw [← hnn.out] at this
        simpa [List.getD] using this)).tail
      obtain ⟨⟨s1, s2, s3, s4, s5, s6⟩, sf⟩ := pkAt_blk A4
      obtain ⟨⟨z1, z2, z3, z4, z5, z6⟩, zf⟩ := pkAt_blk A4.tail
      simp only [Nat.zero_add] at s1 s2 s3 s4 s5 s6 z1 z2 z3 z4 z5 z6
      have uf : ∀ j, wr.frozen? ⟨b, j, none⟩ = false := fun j => free_at A4.tail.tail.1.2.1 j
      have n1 : w2.heap.size ≠ w.heap.size := fun e => A4.2.1 (blkC w.heap.size Pk.zero.cells 49) (by simp) w2.heap.size (by simp [blkC]) (by simp [blkC, e])
      have n2 : w2.heap.size ≠ b := fun e => A4.2.1 (blkC b [.int .i64 r, .int .i64 l, .slice (some ⟨g, 0, none⟩) n c] 75) (by simp) w2.heap.size (by simp [blkC]) (by simp [blkC, e])
      have n3 : w.heap.size ≠ b := fun e => A4.tail.2.1 (blkC b [.int .i64 r, .int .i64 l, .slice (some ⟨g, 0, none⟩) n c] 75) (by simp) w.heap.size (by simp [blkC]) (by simp [blkC, e])
      have n1' : w.heap.size ≠ w2.heap.size := n1.symm
      have n2' : b ≠ w2.heap.size := n2.symm
      have n3' : b ≠ w.heap.size := n3.symm
      have A5 : All (blkC w.heap.size Pk.zero.cells 49 :: blkC b [.int .i64 r, .int .i64 l, .slice oa j oc] 75 :: byC (p.to a2 c2).D p.bs :: pkC (.slice oa j oc) (ps.eraseIdx k) :: cs) (wr.setCell ⟨b, 2, none⟩ (.slice oa j oc)) := (A4.tail.swap.setBlk 2 (.slice oa j oc)).swap
      have A6 : Hid (All (blkC w.heap.size (p.to a2 c2).cells 49 :: blkC b [.int .i64 r, .int .i64 l, .slice oa j oc] 75 :: byC (p.to a2 c2).D p.bs :: pkC (.slice oa j oc) (ps.eraseIdx k) :: cs) ((wr.setCell ⟨b, 2, none⟩ (.slice oa j oc)).setCells w.heap.size 0 (p.to a2 c2).cells)) := hid (All.setBlks (p.to a2 c2).cells Pk.zero.cells _ 0 A5)
      rw [set6] at A6
      simp only [Nat.zero_add] at A6
      clear A2 A4 A5 A A1 tr hjl hin'
      go_wp2
      refine ret_pkB (fn := Try.f34) (b := w.heap.size) (x := p.to a2 c2) rfl rfl rfl A6.out.1.2.1 rfl ?_
      exact ⟨a2, c2, _, rfl, A6.out.tail.swap⟩
end Go.Proofs.Ytpfpamkbahgkpaa

import Derived.Test.YtagdpfghooogfaaXRef
import Derived.Test.YtagdpfghooogfaaLoad
namespace Go.Proofs.Ytagdpfghooogfaa
open Go.RowKit
set_option linter.unusedVariables false

theorem xmay_any {w : World} (n a c k : Int) {s : Value} {l : List ByteArray} (h : Txts w s l) (hl : l.length ≤ 9223372036854775807) : Calls Try.prog 32 #[rowV n a c k s] w fun e w' => e = .returned (.bool (may n a c k l)) ∧ Below w.heap.size w w' := by
  obtain ⟨ao, cp, rfl⟩ := h.form
  have HT := hid h
  have A0 := hid ((All.came w).addBlk [.int .i64 n, .int .i64 a, .int .i64 c, .int .i64 k, .slice ao l.length cp] 39)
  clear h
  go_enter Try.func32, Try.ntmps32
  go_wp2_with fail
  refine (checkX_ref c k (HT.out.alloc _) hl).mono ?_
  rintro e w1 ⟨rfl, B⟩
  have A1 := hid (A0.out.later B)
  have B := hid ((ba w _).trans (B.mono (by simp)))
  have erx : w1.heap[w.heap.size]? = some (.cells #[.int .i64 n, .int .i64 a, .int .i64 c, .int .i64 k, .slice ao l.length cp] 39 (0, 0)) := A1.out.1.2.1
  have x0 : w1.cell? ⟨w.heap.size, 0, none⟩ = some (.int .i64 n) := by rw [cell_at erx]; rfl
  have x1 : w1.cell? ⟨w.heap.size, 1, none⟩ = some (.int .i64 a) := by rw [cell_at erx]; rfl
  have x2 : w1.cell? ⟨w.heap.size, 2, none⟩ = some (.int .i64 c) := by rw [cell_at erx]; rfl
  have x3 : w1.cell? ⟨w.heap.size, 3, none⟩ = some (.int .i64 k) := by rw [cell_at erx]; rfl
  have x4 : w1.cell? ⟨w.heap.size, 4, none⟩ = some (.slice ao l.length cp) := by rw [cell_at erx]; rfl
  clear erx
  obtain ⟨ck, hck⟩ : ∃ ck, Hid (ck = chkX c k l) := ⟨_, hid rfl⟩
  rw [← hck.out]
  clear A0 A1
  by_cases h0 : 1 ≤ n
  · have e0 : decide (1 ≤ n) = true := by simpa using h0
    by_cases h1 : n ≤ 1099511627776
    · have e1 : decide (n ≤ 1099511627776) = true := by simpa using h1
      by_cases h2 : 1 ≤ a
      · have e2 : decide (1 ≤ a) = true := by simpa using h2
        by_cases h3 : a ≤ 1099511627776
        · have e3 : decide (a ≤ 1099511627776) = true := by simpa using h3
          have F : Hid (may n a c k l = (ck == 0)) := by show _ = _; rw [hck.out]; unfold may; rw [Bool.eq_iff_iff]; simp [h0, h1, h2, h3]
          go_wp2
          go_ret
          exact ⟨by rw [F.out]; rfl, B.out⟩
        · have e3 : decide (a ≤ 1099511627776) = false := by simpa using h3
          have F : Hid (may n a c k l = false) := by show _ = _; simp [may, h3]
          go_wp2
          go_ret
          exact ⟨by rw [F.out]; rfl, B.out⟩
      · have e2 : decide (1 ≤ a) = false := by simpa using h2
        have F : Hid (may n a c k l = false) := by show _ = _; simp [may, h2]
        go_wp2
        go_ret
        exact ⟨by rw [F.out]; rfl, B.out⟩
    · have e1 : decide (n ≤ 1099511627776) = false := by simpa using h1
      have F : Hid (may n a c k l = false) := by show _ = _; simp [may, h1]
      go_wp2
      go_ret
      exact ⟨by rw [F.out]; rfl, B.out⟩
  · have e0 : decide (1 ≤ n) = false := by simpa using h0
    have F : Hid (may n a c k l = false) := by show _ = _; simp [may, h0]
    go_wp2
    go_ret
    exact ⟨by rw [F.out]; rfl, B.out⟩

theorem res49 {tmps : Array Value} {w : World} {b : Nat} {n a c k : Int} {s v : Value} (ht : tmps.getD 2 undef = .pointer (some ⟨b, 0, none⟩)) (hv : tmps.getD 3 undef = v) (h : w.heap[b]? = some (.cells #[.int .i64 n, .int .i64 a, .int .i64 c, .int .i64 k, s] 39 (0, 0))) : (results Try.f49 tmps).run Try.prog w = .ok (.tuple #[rowV n a c k s, v]) w := by
  have hp' : tmps[2]?.getD undef = .pointer (some ⟨b, 0, none⟩) := by simpa using ht
  have hv' : tmps[3]?.getD undef = v := by simpa using hv
  have hres : Try.f49.results = #[.cell 2 39, .tmp 3] := rfl
  have x0 : w.cell? ⟨b, 0, none⟩ = some (.int .i64 n) := by rw [cell_at h]; rfl
  have x1 : w.cell? ⟨b, 1, none⟩ = some (.int .i64 a) := by rw [cell_at h]; rfl
  have x2 : w.cell? ⟨b, 2, none⟩ = some (.int .i64 c) := by rw [cell_at h]; rfl
  have x3 : w.cell? ⟨b, 3, none⟩ = some (.int .i64 k) := by rw [cell_at h]; rfl
  have x4 : w.cell? ⟨b, 4, none⟩ = some s := by rw [cell_at h]; rfl
  simp only [results, hres]
  go_simp

set_option maxHeartbeats 3200000 in
set_option maxRecDepth 1000000 in
theorem xread_any {s : Value} {bs : List UInt8} {cs : List Comp} {w : World} (h : All cs w) (hr : Reads w s bs) (hlen : bs.length ≤ 140737488355328) :
    Calls Try.prog 49 #[s] w fun e w' => ∃ so sc, e = .returned (.tuple #[rowV (rowR bs).n (rowR bs).a (rowR bs).c (rowR bs).k (.slice so (rowR bs).l.length sc), .bool (rowOk bs)]) ∧ All (ownC 9 (.slice so (rowR bs).l.length sc) (cellsT (rowR bs).l) :: cs) w' := by
  obtain ⟨ao, cp, rfl⟩ := hr.form
  have A0 := hid (h.addBlk [.int .i64 0, .int .i64 0, .int .i64 0, .int .i64 0, .slice none 0 0] 39)
  have HR := hid hr
  clear h hr
  go_enter Try.func49, Try.ntmps49
  go_wp2_with fail
  refine (xnewRd A0.out (HR.out.below (ba _ _)) hlen).mono ?_
  rintro e w1 ⟨b, v1, rfl, A1⟩
  have A1 := hid A1
  clear A0 HR
  go_wp2_with fail
  refine (xnumRd A1.out hlen 1099511627776).mono ?_
  rintro e w2 ⟨rfl, A2⟩
  have A2 := hid A2
  clear A1
  go_wp2_with fail
  refine (xnumRd A2.out hlen 1099511627776).mono ?_
  rintro e w3 ⟨rfl, A3⟩
  obtain ⟨X, hX⟩ : ∃ X, Hid (X = rowR bs) := ⟨_, hid rfl⟩
  have X1 : (⟨bs, 0, 0⟩ : Rst).numV 1099511627776 = X.n := by rw [hX.out]; rfl
  have X2 : ((⟨bs, 0, 0⟩ : Rst).num 1099511627776).numV 1099511627776 = X.a := by rw [hX.out]; rfl
  have X3 : Hid ((((⟨bs, 0, 0⟩ : Rst).num 1099511627776).num 1099511627776).resV = ⟨X.c, X.k, X.l⟩) := hid (by rw [hX.out]; rfl)
  rw [X1, X2]
  have A4 := hid ((A3.addBlk [.int .i64 X.n, .int .i64 X.a, .int .i64 0, .int .i64 0, .slice none 0 0] 39).swap)
  clear A2 A3 X1 X2
  go_wp2_with fail
  refine (xgetResult_any A4.out hlen).mono ?_
  rintro e w4 ⟨so, sc, rfl, A5⟩
  obtain ⟨q4, hq4⟩ : ∃ q4, Hid (q4 = (((rst0 bs).num 1099511627776).num 1099511627776).res) := ⟨_, hid rfl⟩
  rw [show (((⟨bs, 0, 0⟩ : Rst).num 1099511627776).num 1099511627776).res = q4 from hq4.out.symm, X3.out] at A5
  rw [X3.out]
  have E4 : Hid (rowOk bs = (q4.close == 0 && may X.n X.a X.c X.k X.l)) := hid (by rw [hX.out, hq4.out]; rfl)
  have HL : Hid (X.l.length ≤ 9223372036854775807) := hid (by
    have : X.l = (((rst0 bs).num 1099511627776).num 1099511627776).resV.l := by rw [hX.out]; rfl
    rw [this]
    exact resV_len _)
  simp only at A5 ⊢
  obtain ⟨nl, hnl⟩ : ∃ nl, Hid (nl = X.l.length) := ⟨_, hid rfl⟩
  rw [← hnl.out] at A5 ⊢
  have A5 := hid A5
  have erx : w4.heap[w3.heap.size]? = some (.cells #[.int .i64 X.n, .int .i64 X.a, .int .i64 0, .int .i64 0, .slice none 0 0] 39 (0, 0)) := A5.out.blk (vs := [.int .i64 X.n, .int .i64 X.a, .int .i64 0, .int .i64 0, .slice none 0 0]) (by simp)
  have x0 : w4.cell? ⟨w3.heap.size, 0, none⟩ = some (.int .i64 X.n) := by rw [cell_at erx]; rfl
  have x1 : w4.cell? ⟨w3.heap.size, 1, none⟩ = some (.int .i64 X.a) := by rw [cell_at erx]; rfl
  have x2 : w4.cell? ⟨w3.heap.size, 2, none⟩ = some (.int .i64 0) := by rw [cell_at erx]; rfl
  have x3 : w4.cell? ⟨w3.heap.size, 3, none⟩ = some (.int .i64 0) := by rw [cell_at erx]; rfl
  have x4 : w4.cell? ⟨w3.heap.size, 4, none⟩ = some (.slice none 0 0) := by rw [cell_at erx]; rfl
  have fx2 : w4.frozen? ⟨w3.heap.size, 2, none⟩ = false := free_at erx 2
  have fx3 : w4.frozen? ⟨w3.heap.size, 3, none⟩ = false := free_at erx 3
  have fx4 : w4.frozen? ⟨w3.heap.size, 4, none⟩ = false := free_at erx 4
  clear erx
  have A6 := hid (((A5.out.rev3.setBlk 2 (.int .i64 X.c)).setBlk 3 (.int .i64 X.k)).setBlk 4 (.slice so nl sc)).swap
  clear A4 A5 X3
  go_wp2_with fail
  refine (xcloseRd A6.out hlen).mono ?_
  rintro e w5 ⟨rfl, A7⟩
  obtain ⟨ck, hck⟩ : ∃ ck, Hid (ck = q4.close) := ⟨_, hid rfl⟩
  rw [← hck.out] at A7 E4 ⊢
  have A7 : Hid (All (xrC b v1 bs ⟨[], q4.place, ck⟩ :: blkC w3.heap.size [.int .i64 X.n, .int .i64 X.a, .int .i64 X.c, .int .i64 X.k, .slice so nl sc] 39 :: ownC 9 (.slice so nl sc) (cellsT X.l) :: blkC w.heap.size [.int .i64 0, .int .i64 0, .int .i64 0, .int .i64 0, .slice none 0 0] 39 :: cs) w5) := hid A7
  clear A6 x0 x1 x2 x3 x4 fx2 fx3 fx4
  have erx : w5.heap[w3.heap.size]? = some (.cells #[.int .i64 X.n, .int .i64 X.a, .int .i64 X.c, .int .i64 X.k, .slice so nl sc] 39 (0, 0)) := A7.out.tail.1.2.1
  have x0 : w5.cell? ⟨w3.heap.size, 0, none⟩ = some (.int .i64 X.n) := by rw [cell_at erx]; rfl
  have x1 : w5.cell? ⟨w3.heap.size, 1, none⟩ = some (.int .i64 X.a) := by rw [cell_at erx]; rfl
  have x2 : w5.cell? ⟨w3.heap.size, 2, none⟩ = some (.int .i64 X.c) := by rw [cell_at erx]; rfl
  have x3 : w5.cell? ⟨w3.heap.size, 3, none⟩ = some (.int .i64 X.k) := by rw [cell_at erx]; rfl
  have x4 : w5.cell? ⟨w3.heap.size, 4, none⟩ = some (.slice so nl sc) := by rw [cell_at erx]; rfl
  clear erx
  have HT : Hid (Txts w5 (.slice so nl sc) X.l) := hid (Txts.of_owns (base := 0) (by
    have h2 : w5.ownsRow 0 9 1 (.slice so nl sc) (cellsT X.l).length (cellsT X.l) := A7.out.tail.tail.1.2.1
    rw [cellsT_length] at h2; exact h2))
  go_wp2_with fail
  refine (xmay_any X.n X.a X.c X.k HT.out HL.out).mono ?_
  rintro e w6 ⟨rfl, B6⟩
  have A8 := hid (A7.out.later B6)
  clear HT B6 A7 x0 x1 x2 x3 x4
  have erx : w6.heap[w3.heap.size]? = some (.cells #[.int .i64 X.n, .int .i64 X.a, .int .i64 X.c, .int .i64 X.k, .slice so nl sc] 39 (0, 0)) := A8.out.tail.1.2.1
  have x0 : w6.cell? ⟨w3.heap.size, 0, none⟩ = some (.int .i64 X.n) := by rw [cell_at erx]; rfl
  have x1 : w6.cell? ⟨w3.heap.size, 1, none⟩ = some (.int .i64 X.a) := by rw [cell_at erx]; rfl
  have x2 : w6.cell? ⟨w3.heap.size, 2, none⟩ = some (.int .i64 X.c) := by rw [cell_at erx]; rfl
  have x3 : w6.cell? ⟨w3.heap.size, 3, none⟩ = some (.int .i64 X.k) := by rw [cell_at erx]; rfl
  have x4 : w6.cell? ⟨w3.heap.size, 4, none⟩ = some (.slice so nl sc) := by rw [cell_at erx]; rfl
  clear erx
  have err : w6.heap[w.heap.size]? = some (.cells #[.int .i64 0, .int .i64 0, .int .i64 0, .int .i64 0, .slice none 0 0] 39 (0, 0)) := A8.out.tail.tail.tail.1.2.1
  have r0 : w6.cell? ⟨w.heap.size, 0, none⟩ = some (.int .i64 0) := by rw [cell_at err]; rfl
  have r1 : w6.cell? ⟨w.heap.size, 1, none⟩ = some (.int .i64 0) := by rw [cell_at err]; rfl
  have r2 : w6.cell? ⟨w.heap.size, 2, none⟩ = some (.int .i64 0) := by rw [cell_at err]; rfl
  have r3 : w6.cell? ⟨w.heap.size, 3, none⟩ = some (.int .i64 0) := by rw [cell_at err]; rfl
  have r4 : w6.cell? ⟨w.heap.size, 4, none⟩ = some (.slice none 0 0) := by rw [cell_at err]; rfl
  have fr0 : w6.frozen? ⟨w.heap.size, 0, none⟩ = false := free_at err 0
  have fr1 : w6.frozen? ⟨w.heap.size, 1, none⟩ = false := free_at err 1
  have fr2 : w6.frozen? ⟨w.heap.size, 2, none⟩ = false := free_at err 2
  have fr3 : w6.frozen? ⟨w.heap.size, 3, none⟩ = false := free_at err 3
  have fr4 : w6.frozen? ⟨w.heap.size, 4, none⟩ = false := free_at err 4
  clear err
  obtain ⟨mv, hmv⟩ : ∃ mv, Hid (mv = may X.n X.a X.c X.k X.l) := ⟨_, hid rfl⟩
  rw [← hmv.out] at E4 ⊢
  have FIN : Hid (∀ W, W = (((((w6.setCell ⟨w.heap.size, 0, none⟩ (.int .i64 X.n)).setCell ⟨w.heap.size, 1, none⟩ (.int .i64 X.a)).setCell ⟨w.heap.size, 2, none⟩ (.int .i64 X.c)).setCell ⟨w.heap.size, 3, none⟩ (.int .i64 X.k)).setCell ⟨w.heap.size, 4, none⟩ (.slice so nl sc)) → W.heap[w.heap.size]? = some (.cells #[.int .i64 X.n, .int .i64 X.a, .int .i64 X.c, .int .i64 X.k, .slice so nl sc] 39 (0, 0)) ∧ All (ownC 9 (.slice so nl sc) (cellsT X.l) :: cs) W) := hid (by
    rintro W rfl
    have A9 := ((((((A8.out.perm (rot4' _ _ _ _ cs)).setBlk 0 (.int .i64 X.n)).setBlk 1 (.int .i64 X.a)).setBlk 2 (.int .i64 X.c)).setBlk 3 (.int .i64 X.k)).setBlk 4 (.slice so nl sc))
    exact ⟨A9.1.2.1, A9.tail.sublist (.cons_cons _ (.cons _ (.cons _ (.refl _))))⟩)
  clear A8
  by_cases hc : ck = 0
  · have ec : (ck == 0) = true := by simpa using hc
    have EV : Hid (rowOk bs = mv) := hid (by rw [E4.out, ec]; rfl)
    clear hc E4
    go_wp2
    obtain ⟨f1, f2⟩ := FIN.out _ rfl
    refine bodyPost_ret (v := .tuple #[rowV X.n X.a X.c X.k (.slice so nl sc), .bool mv]) (res49 (b := w.heap.size) rfl rfl f1) rfl ?_
    refine ⟨so, sc, ?_, ?_⟩
    · rw [← hX.out, ← hnl.out, EV.out]
    · rw [← hX.out, ← hnl.out]; exact f2
  · have ec : (ck == 0) = false := by simpa using hc
    have EV : Hid (rowOk bs = false) := hid (by rw [E4.out, ec]; rfl)
    clear hc E4
    go_wp2
    obtain ⟨f1, f2⟩ := FIN.out _ rfl
    refine bodyPost_ret (v := .tuple #[rowV X.n X.a X.c X.k (.slice so nl sc), .bool false]) (res49 (b := w.heap.size) rfl rfl f1) rfl ?_
    refine ⟨so, sc, ?_, ?_⟩
    · rw [← hX.out, ← hnl.out, EV.out]
    · rw [← hX.out, ← hnl.out]; exact f2

end Go.Proofs.Ytagdpfghooogfaa

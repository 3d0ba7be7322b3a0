import Derived.Test.YtagdpfghooogfaaXR5
import Derived.Test.YtagdpfghooogfaaRead
namespace Go.Proofs.Ytagdpfghooogfaa
open Go.RowKit
set_option linter.unusedVariables false

/-- The document's reader, as a part. -/
def xrC (b : Nat) (v : Value) (B : List UInt8) (r : Rst) : Comp := ⟨fun w => XRd w b v B r.rs r.place r.err, b :: v.ownBlock.toList⟩
theorem xrC_good (b : Nat) (v : Value) (B : List UInt8) (r : Rst) : (xrC b v B r).Good := fun w w' h _ hk =>
  XRd.kept h (hk b (by simp [xrC])) (fun k hk' => hk k (by simp [xrC, hk']))
theorem All.xrstep {b : Nat} {v : Value} {B : List UInt8} {r r' : Rst} {cs : List Comp} {w w' : World} (h : All (xrC b v B r :: cs) w) (h1 : XRd w' b v B r'.rs r'.place r'.err) (h2 : Only b w w') : All (xrC b v B r' :: cs) w' := by
  refine h.turn ⟨h2.os, h2.tape, h2.output, h2.size, fun k hk hn => ?_⟩ (xrC_good _ _ _ _) h1 (fun k hk => Or.inl hk) (fun k hk => ?_)
  · simp [xrC] at hn
    exact h2.block k hk hn.1
  · simp [xrC] at hk
    rcases hk with rfl | hk
    · exact h1.1.lt
    · exact h1.1.own_lt k hk

theorem xnewRd {s : Value} {l : List UInt8} {cs : List Comp} {w : World} (h : All cs w) (hr : Reads w s l) (hlen : l.length ≤ 140737488355328) : Calls Try.prog 61 #[s] w fun e w' => ∃ b v, e = .returned (.pointer (some ⟨b, 0, none⟩)) ∧ All (xrC b v l ⟨l, 0, 0⟩ :: cs) w' :=
  (xnewr_any (.inl hr) hlen).mono fun e w' ⟨b, v, h1, h2, h3, h4, h5⟩ => ⟨b, v, h1, h.add (Fr.below h3) (xrC_good _ _ _ _) h2 (fun k hk => by
    simp only [xrC, List.mem_cons, Option.mem_toList] at hk
    rcases hk with rfl | hk
    · exact ⟨h4, h2.1.lt⟩
    · exact ⟨h5 k hk, h2.1.own_lt k hk⟩)⟩
theorem xnumRd {b : Nat} {v : Value} {B : List UInt8} {r : Rst} {cs : List Comp} {w : World} (h : All (xrC b v B r :: cs) w) (hp : B.length ≤ 140737488355328) (most : Int) : Calls Try.prog 62 #[.pointer (some ⟨b, 0, none⟩), .int .i64 most] w fun e w' => e = .returned (.int .i64 (r.numV most)) ∧ All (xrC b v B (r.num most) :: cs) w' :=
  (xNum_any h.1.2.1 hp most).mono fun e w' ⟨h1, h2, h3⟩ => ⟨h1, h.xrstep h2 h3⟩
theorem xtextRd {b : Nat} {v : Value} {B : List UInt8} {r : Rst} {cs : List Comp} {w : World} (h : All (xrC b v B r :: cs) w) (hp : B.length ≤ 140737488355328) (most : Int) : Calls Try.prog 74 #[.pointer (some ⟨b, 0, none⟩), .int .i64 most] w fun e w' => e = .returned (.string (r.txtV most)) ∧ All (xrC b v B (r.txt most) :: cs) w' :=
  (xText_any h.1.2.1 hp most).mono fun e w' ⟨h1, h2, h3⟩ => ⟨h1, h.xrstep h2 h3⟩
theorem xerrRd {b : Nat} {v : Value} {B : List UInt8} {r : Rst} {cs : List Comp} {w : World} (h : All (xrC b v B r :: cs) w) : Calls Try.prog 75 #[.pointer (some ⟨b, 0, none⟩)] w fun e w' => e = .returned (.tuple #[.int .i64 r.err, .int .i64 (r.place : Int)]) ∧ All (xrC b v B r :: cs) w' :=
  (xErr_any h.1.2.1).mono fun e w' ⟨h1, q, h2⟩ => ⟨h1, by rw [h2]; exact h.drewN q⟩
theorem xcloseRd {b : Nat} {v : Value} {B : List UInt8} {r : Rst} {cs : List Comp} {w : World} (h : All (xrC b v B r :: cs) w) (hp : B.length ≤ 140737488355328) : Calls Try.prog 64 #[.pointer (some ⟨b, 0, none⟩)] w fun e w' => e = .returned (.int .i64 r.close) ∧ All (xrC b v B ⟨[], r.place, r.close⟩ :: cs) w' :=
  (xClose_any h.1.2.1 hp).mono fun e w' ⟨h1, h2, h3⟩ => ⟨h1, h.xrstep h2 h3⟩

theorem res63 {tmps : Array Value} {w : World} {b : Nat} {c k : Int} {s : Value} (ht : tmps.getD 2 undef = .pointer (some ⟨b, 0, none⟩)) (h : w.heap[b]? = some (.cells #[.int .i64 c, .int .i64 k, s] 37 (0, 0))) : (results Try.f63 tmps).run Try.prog w = .ok (resV c k s) w := by
  have hp' : tmps[2]?.getD undef = .pointer (some ⟨b, 0, none⟩) := by simpa using ht
  have hres : Try.f63.results = #[.cell 2 37] := rfl
  have x0 : w.cell? ⟨b, 0, none⟩ = some (.int .i64 c) := by rw [cell_at h]; rfl
  have x1 : w.cell? ⟨b, 1, none⟩ = some (.int .i64 k) := by rw [cell_at h]; rfl
  have x2 : w.cell? ⟨b, 2, none⟩ = some s := by rw [cell_at h]; rfl
  simp only [results, hres]
  go_simp
/-- Four parts, turned: own, x, result, reader to reader, result, x, own, and back. -/
theorem rot4' (a b c d : Comp) (cs : List Comp) : List.Perm (a :: b :: c :: d :: cs) (d :: c :: b :: a :: cs) := by
  have h : List.Perm [a, b, c, d] [d, c, b, a] := (List.reverse_perm [d, c, b, a])
  exact h.append_right cs
theorem rot4b (a b c d : Comp) (cs : List Comp) : List.Perm (a :: b :: c :: d :: cs) (d :: c :: b :: a :: cs) := rot4' a b c d cs

set_option maxHeartbeats 3200000 in
set_option maxRecDepth 1000000 in
theorem xgetResult_any {b : Nat} {v : Value} {B : List UInt8} {r : Rst} {cs : List Comp} {w : World} (h : All (xrC b v B r :: cs) w) (hp : B.length ≤ 140737488355328) :
    Calls Try.prog 63 #[.pointer (some ⟨b, 0, none⟩)] w fun e w' => ∃ so sc, e = .returned (resV r.resV.c r.resV.k (.slice so r.resV.l.length sc)) ∧ All (ownC 9 (.slice so r.resV.l.length sc) (cellsT r.resV.l) :: xrC b v B r.res :: cs) w' := by
  have HH := hid h
  clear h
  obtain ⟨i0, hi, hz0, hz1, hz2⟩ := info_parts Try.info9
  have A0 := hid (((HH.out.addBlk [.int .i64 0, .int .i64 0, .slice none 0 0] 37).addBlk [.int .i64 0, .int .i64 0, .slice none 0 0] 37).rev3)
  simp only [World.size_alloc] at A0
  clear HH
  go_enter Try.func63, Try.ntmps63
  go_wp2_with fail
  refine (xnumRd A0.out hp 4).mono ?_
  rintro e w1 ⟨rfl, A1⟩
  obtain ⟨c, hc⟩ : ∃ c, Hid (c = r.numV 4) := ⟨_, hid rfl⟩
  rw [← hc.out]
  have A1 := hid A1
  have erx : w1.heap[w.heap.size + 1]? = some (.cells #[.int .i64 0, .int .i64 0, .slice none 0 0] 37 (0, 0)) := A1.out.blk (vs := [.int .i64 0, .int .i64 0, .slice none 0 0]) (by simp)
  have x0 : w1.cell? ⟨w.heap.size + 1, 0, none⟩ = some (.int .i64 0) := by rw [cell_at erx]; rfl
  have x1 : w1.cell? ⟨w.heap.size + 1, 1, none⟩ = some (.int .i64 0) := by rw [cell_at erx]; rfl
  have x2 : w1.cell? ⟨w.heap.size + 1, 2, none⟩ = some (.slice none 0 0) := by rw [cell_at erx]; rfl
  have fx0 : w1.frozen? ⟨w.heap.size + 1, 0, none⟩ = false := free_at erx 0
  have fx1 : w1.frozen? ⟨w.heap.size + 1, 1, none⟩ = false := free_at erx 1
  have fx2 : w1.frozen? ⟨w.heap.size + 1, 2, none⟩ = false := free_at erx 2
  clear erx
  have A2 := hid (A1.out.rev3.setBlk 0 (.int .i64 c)).rev3
  clear A0 A1
  by_cases h0 : c = 0
  · have F : Hid (r.res0 = (⟨0, (r.num 4).numV 1099511627776, (((r.num 4).num 1099511627776).num 8 |>.items (((r.num 4).num 1099511627776).numV 8).toNat).1⟩, (((r.num 4).num 1099511627776).num 8 |>.items (((r.num 4).num 1099511627776).numV 8).toNat).2)) := hid (by rw [Rst.res0, if_pos (by rw [← hc.out]; exact h0)])
    subst h0
    go_wp2_with fail
    refine (xnumRd A2.out hp 1099511627776).mono ?_
    rintro e w2 ⟨rfl, A3⟩
    obtain ⟨kk, hkk⟩ : ∃ kk, Hid (kk = (r.num 4).numV 1099511627776) := ⟨_, hid rfl⟩
    obtain ⟨q2, hq2⟩ : ∃ q2, Hid (q2 = (r.num 4).num 1099511627776) := ⟨_, hid rfl⟩
    rw [← hkk.out, ← hq2.out] at F
    rw [← hq2.out] at A3
    rw [← hkk.out]
    have A3 := hid A3
    clear A2 x0 x1 x2 fx0 fx1 fx2
    have erx : w2.heap[w.heap.size + 1]? = some (.cells #[.int .i64 0, .int .i64 0, .slice none 0 0] 37 (0, 0)) := A3.out.blk (vs := [.int .i64 0, .int .i64 0, .slice none 0 0]) (by simp)
    have x0 : w2.cell? ⟨w.heap.size + 1, 0, none⟩ = some (.int .i64 0) := by rw [cell_at erx]; rfl
    have x1 : w2.cell? ⟨w.heap.size + 1, 1, none⟩ = some (.int .i64 0) := by rw [cell_at erx]; rfl
    have x2 : w2.cell? ⟨w.heap.size + 1, 2, none⟩ = some (.slice none 0 0) := by rw [cell_at erx]; rfl
    have fx0 : w2.frozen? ⟨w.heap.size + 1, 0, none⟩ = false := free_at erx 0
    have fx1 : w2.frozen? ⟨w.heap.size + 1, 1, none⟩ = false := free_at erx 1
    have fx2 : w2.frozen? ⟨w.heap.size + 1, 2, none⟩ = false := free_at erx 2
    clear erx
    have A4 := hid (A3.out.rev3.setBlk 1 (.int .i64 kk)).rev3
    clear A3
    go_wp2_with fail
    refine (xnumRd A4.out hp 8).mono ?_
    obtain ⟨N, hN⟩ : ∃ N : Nat, Hid (q2.numV 8 = (N : Int) ∧ N ≤ 8) := ⟨(q2.numV 8).toNat, hid (by
      have h1 := numR_val q2.rs 8 13
      have h2 := numR_le q2.rs 8 13 (by omega)
      unfold Rst.numV
      omega)⟩
    have eN : (q2.numV 8).toNat = N := by rw [hN.out.1]; simp
    obtain ⟨q8, hq8⟩ : ∃ q8, Hid (q8 = q2.num 8) := ⟨_, hid rfl⟩
    rw [eN, ← hq8.out] at F
    rw [hN.out.1, ← hq8.out]
    rintro e w3 ⟨rfl, A5⟩
    have A5 := hid (A5.rev3)
    have hN8 := hN.out.2
    clear A4 eN x0 x1 x2 fx0 fx1 fx2
    go_wp2
    go_loopw [5] (fun iv wr => ∃ (k : Nat) (so : Option Addr) (sc : Nat), iv = .int .i64 (k : Int) ∧ k ≤ N ∧ Hid (All (ownC 9 (.slice so k sc) (cellsT (q8.items k).1) :: blkC (w.heap.size + 1) [.int .i64 0, .int .i64 kk, .slice so k sc] 37 :: blkC w.heap.size [.int .i64 0, .int .i64 0, .slice none 0 0] 37 :: xrC b v B (q8.items k).2 :: cs) wr)) (fun iv _ => N - (intOf iv).toNat)
    case atStart => exact ⟨0, none, 0, rfl, Nat.zero_le _, hid A5.out.addNil⟩
    case round =>
      obtain ⟨k, so, sc, rfl, hk, AR⟩ := hrel
      clear A5
      by_cases hlt : k < N
      case neg =>
        obtain rfl : k = N := by omega
        obtain ⟨LL, hLL⟩ : ∃ LL, Hid (LL = (q8.items k).1) := ⟨_, hid rfl⟩
        obtain ⟨q9, hq9⟩ : ∃ q9, Hid (q9 = (q8.items k).2) := ⟨_, hid rfl⟩
        have hnl : Hid (k = LL.length) := hid (by rw [hLL.out, items_len])
        rw [← hLL.out, ← hq9.out] at F AR
        have A6 := hid (AR.out.perm (rot4' _ _ _ _ cs))
        clear AR
        go_wp2_with fail
        refine (xerrRd A6.out).mono ?_
        rintro e w4 ⟨rfl, A7⟩
        have A7 := hid A7
        clear A6
        have erx : w4.heap[w.heap.size + 1]? = some (.cells #[.int .i64 0, .int .i64 kk, .slice so k sc] 37 (0, 0)) := A7.out.blk (vs := [.int .i64 0, .int .i64 kk, .slice so k sc]) (by simp)
        have x0 : w4.cell? ⟨w.heap.size + 1, 0, none⟩ = some (.int .i64 0) := by rw [cell_at erx]; rfl
        have x1 : w4.cell? ⟨w.heap.size + 1, 1, none⟩ = some (.int .i64 kk) := by rw [cell_at erx]; rfl
        have x2 : w4.cell? ⟨w.heap.size + 1, 2, none⟩ = some (.slice so k sc) := by rw [cell_at erx]; rfl
        have fx0 : w4.frozen? ⟨w.heap.size + 1, 0, none⟩ = false := free_at erx 0
        have fx1 : w4.frozen? ⟨w.heap.size + 1, 1, none⟩ = false := free_at erx 1
        have fx2 : w4.frozen? ⟨w.heap.size + 1, 2, none⟩ = false := free_at erx 2
        clear erx
        have err : w4.heap[w.heap.size]? = some (.cells #[.int .i64 0, .int .i64 0, .slice none 0 0] 37 (0, 0)) := A7.out.blk (g := w.heap.size) (vs := [.int .i64 0, .int .i64 0, .slice none 0 0]) (by simp)
        have r0 : w4.cell? ⟨w.heap.size, 0, none⟩ = some (.int .i64 0) := by rw [cell_at err]; rfl
        have r1 : w4.cell? ⟨w.heap.size, 1, none⟩ = some (.int .i64 0) := by rw [cell_at err]; rfl
        have r2 : w4.cell? ⟨w.heap.size, 2, none⟩ = some (.slice none 0 0) := by rw [cell_at err]; rfl
        have fr0 : w4.frozen? ⟨w.heap.size, 0, none⟩ = false := free_at err 0
        have fr1 : w4.frozen? ⟨w.heap.size, 1, none⟩ = false := free_at err 1
        have fr2 : w4.frozen? ⟨w.heap.size, 2, none⟩ = false := free_at err 2
        clear err
        by_cases he : q9.err = 0
        · have ee : (q9.err != 0) = false := by simpa using he
          have V : Hid (r.resV = ⟨0, kk, LL⟩ ∧ r.res = q9) := hid ⟨by rw [Rst.resV, F.out, if_pos he], by rw [Rst.res, F.out]⟩
          clear he F
          go_wp2
          have A8 := (((A7.out.swap.setBlk 0 (.int .i64 0)).setBlk 1 (.int .i64 kk)).setBlk 2 (.slice so k sc))
          refine bodyPost_ret (v := resV 0 kk (.slice so k sc)) (res63 (b := w.heap.size) rfl A8.1.2.1) rfl ?_
          refine ⟨so, sc, by rw [V.out.1, hnl.out], ?_⟩
          rw [V.out.1, V.out.2, ← hnl.out]
          exact (A8.tail.sublist (.cons_cons _ (.cons _ (.refl _)))).swap
        · have ee : (q9.err != 0) = true := by simpa using he
          have V : Hid (r.resV = ⟨0, 0, []⟩ ∧ r.res = q9) := hid ⟨by rw [Rst.resV, F.out, if_neg he], by rw [Rst.res, F.out]⟩
          clear he F
          go_wp2
          have A8 := (((A7.out.swap.setBlk 0 (.int .i64 0)).setBlk 1 (.int .i64 0)).setBlk 2 (.slice none 0 0))
          refine bodyPost_ret (v := resV 0 0 (.slice none 0 0)) (res63 (b := w.heap.size) rfl A8.1.2.1) rfl ?_
          refine ⟨none, 0, by rw [V.out.1]; rfl, ?_⟩
          rw [V.out.1, V.out.2]
          exact All.addNil (A8.tail.sublist (.cons_cons _ (.cons _ (.cons _ (.refl _)))))
      have el : decide ((k : Int) < (N : Int)) = true := by simpa using hlt
      have A6 := hid (AR.out.perm (rot4' _ _ _ _ cs))
      clear AR
      go_wp2_with fail
      refine (xtextRd A6.out hp 64).mono ?_
      rintro e w4 ⟨rfl, A7⟩
      obtain ⟨t, ht⟩ : ∃ t, Hid (t = (q8.items k).2.txtV 64) := ⟨_, hid rfl⟩
      rw [← ht.out]
      have A8 := A7.perm (rot4b _ _ _ _ cs)
      have A9 := hid (A8.alloc (.cells #[.string t] 9))
      have hrow : (w4.alloc (.cells #[.string t] 9)).ownsRow 0 9 1 (.slice so k sc) k (cellsT (q8.items k).1) := by
        have h1 : (w4.alloc (.cells #[.string t] 9)).ownsRow 0 9 1 (.slice so k sc) (cellsT (q8.items k).1).length (cellsT (q8.items k).1) := A9.out.1.2.1
        rw [cellsT_length, items_len] at h1
        exact h1
      have hnews : ∀ j u, [.string t][j]? = some u → (w4.alloc (.cells #[.string t] 9)).cell? ((⟨w4.heap.size, 0, none⟩ : Addr).add j) = some u := by
        intro j u hu
        rw [Addr.add_lit, cell_at (heap_alloc_new w4 _)]
        cases j with
        | zero => simpa using hu
        | succ j => simp at hu
      have hone : ∀ u ∈ [Value.string t], u.oneCell' = true := by
        intro u hu
        simp only [List.mem_singleton] at hu
        subst hu
        rfl
      have A8h := hid A8
      have erx : w4.heap[w.heap.size + 1]? = some (.cells #[.int .i64 0, .int .i64 kk, .slice so k sc] 37 (0, 0)) := A8h.out.blk (vs := [.int .i64 0, .int .i64 kk, .slice so k sc]) (by simp)
      have x0 : w4.cell? ⟨w.heap.size + 1, 0, none⟩ = some (.int .i64 0) := by rw [cell_at erx]; rfl
      have x1 : w4.cell? ⟨w.heap.size + 1, 1, none⟩ = some (.int .i64 kk) := by rw [cell_at erx]; rfl
      have x2 : w4.cell? ⟨w.heap.size + 1, 2, none⟩ = some (.slice so k sc) := by rw [cell_at erx]; rfl
      have fx0 : w4.frozen? ⟨w.heap.size + 1, 0, none⟩ = false := free_at erx 0
      have fx1 : w4.frozen? ⟨w.heap.size + 1, 1, none⟩ = false := free_at erx 1
      have fx2 : w4.frozen? ⟨w.heap.size + 1, 2, none⟩ = false := free_at erx 2
      clear erx
      have hxl : w.heap.size + 1 < w4.heap.size := by
        have := (A8h.out.mem (c := blkC (w.heap.size + 1) [.int .i64 0, .int .i64 kk, .slice so k sc] 37) (by simp)).2.2 (w.heap.size + 1) (by simp [blkC])
        exact this
      clear A6 A7 A8 A8h
      go_wp2_with (at_builtin; refine wpList_append_own_at _ rfl (.tmp 29) (.tmp 31) 35 rfl 0 9 i0 (.string (.mk #[])) 1 16 Try.underlying35 hi hz0 hz1 hz2 rfl (by decide) _ _ _ rfl hrow ⟨w4.heap.size, 0, none⟩ 1 1 [.string t] rfl rfl hnews hone (by unfold maxLen; omega) (by omega) (by simp) ?_)
      intro v' w5 hown hgr _ hat
      have A10 := A9.out.ownGrow (vs' := cellsT (q8.items (k + 1)).1) (base := 0) (v' := v') (by
        rw [cellsT_length, items_len]
        simpa [Rst.items, cellsT, ← ht.out] using hown) hgr (by simpa using hat)
      obtain ⟨so', sc', rfl⟩ := owns_form hown
      have A11 := hid A10
      clear hown hgr hat A9 A10 hrow hnews hone x0 x1 x2 fx0 fx1 fx2
      have erx : w5.heap[w.heap.size + 1]? = some (.cells #[.int .i64 0, .int .i64 kk, .slice so k sc] 37 (0, 0)) := A11.out.blk (vs := [.int .i64 0, .int .i64 kk, .slice so k sc]) (by simp)
      have x0 : w5.cell? ⟨w.heap.size + 1, 0, none⟩ = some (.int .i64 0) := by rw [cell_at erx]; rfl
      have x1 : w5.cell? ⟨w.heap.size + 1, 1, none⟩ = some (.int .i64 kk) := by rw [cell_at erx]; rfl
      have x2 : w5.cell? ⟨w.heap.size + 1, 2, none⟩ = some (.slice so k sc) := by rw [cell_at erx]; rfl
      have fx0 : w5.frozen? ⟨w.heap.size + 1, 0, none⟩ = false := free_at erx 0
      have fx1 : w5.frozen? ⟨w.heap.size + 1, 1, none⟩ = false := free_at erx 1
      have fx2 : w5.frozen? ⟨w.heap.size + 1, 2, none⟩ = false := free_at erx 2
      clear erx
      have A12 := hid (A11.out.swap.setBlk 2 (.slice so' (k + 1) sc')).swap
      clear A11
      go_wp2
      go_roundw
      case rel => exact ⟨k + 1, so', sc', by go_num, by omega, A12⟩
      case measure => simp [intOf]; omega
  · have F : Hid (r.res0 = (⟨c, 0, []⟩, r.num 4)) := hid (by rw [Rst.res0, if_neg (by rw [← hc.out]; exact h0), hc.out])
    have ec : (c == 0) = false := by simpa using h0
    go_wp2_with fail
    refine (xerrRd A2.out).mono ?_
    rintro e w4 ⟨rfl, A7⟩
    have A7 := hid A7
    clear A2 x0 x1 x2 fx0 fx1 fx2
    have erx : w4.heap[w.heap.size + 1]? = some (.cells #[.int .i64 c, .int .i64 0, .slice none 0 0] 37 (0, 0)) := A7.out.blk (vs := [.int .i64 c, .int .i64 0, .slice none 0 0]) (by simp)
    have x0 : w4.cell? ⟨w.heap.size + 1, 0, none⟩ = some (.int .i64 c) := by rw [cell_at erx]; rfl
    have x1 : w4.cell? ⟨w.heap.size + 1, 1, none⟩ = some (.int .i64 0) := by rw [cell_at erx]; rfl
    have x2 : w4.cell? ⟨w.heap.size + 1, 2, none⟩ = some (.slice none 0 0) := by rw [cell_at erx]; rfl
    have fx0 : w4.frozen? ⟨w.heap.size + 1, 0, none⟩ = false := free_at erx 0
    have fx1 : w4.frozen? ⟨w.heap.size + 1, 1, none⟩ = false := free_at erx 1
    have fx2 : w4.frozen? ⟨w.heap.size + 1, 2, none⟩ = false := free_at erx 2
    clear erx
    have err : w4.heap[w.heap.size]? = some (.cells #[.int .i64 0, .int .i64 0, .slice none 0 0] 37 (0, 0)) := A7.out.blk (g := w.heap.size) (vs := [.int .i64 0, .int .i64 0, .slice none 0 0]) (by simp)
    have r0 : w4.cell? ⟨w.heap.size, 0, none⟩ = some (.int .i64 0) := by rw [cell_at err]; rfl
    have r1 : w4.cell? ⟨w.heap.size, 1, none⟩ = some (.int .i64 0) := by rw [cell_at err]; rfl
    have r2 : w4.cell? ⟨w.heap.size, 2, none⟩ = some (.slice none 0 0) := by rw [cell_at err]; rfl
    have fr0 : w4.frozen? ⟨w.heap.size, 0, none⟩ = false := free_at err 0
    have fr1 : w4.frozen? ⟨w.heap.size, 1, none⟩ = false := free_at err 1
    have fr2 : w4.frozen? ⟨w.heap.size, 2, none⟩ = false := free_at err 2
    clear err
    by_cases he : (r.num 4).err = 0
    · have ee : ((r.num 4).err != 0) = false := by simpa using he
      have V : Hid (r.resV = ⟨c, 0, []⟩ ∧ r.res = (r.num 4)) := hid ⟨by rw [Rst.resV, F.out, if_pos he], by rw [Rst.res, F.out]⟩
      clear he F
      go_wp2
      have A8 := (((A7.out.swap.setBlk 0 (.int .i64 c)).setBlk 1 (.int .i64 0)).setBlk 2 (.slice none 0 0))
      refine bodyPost_ret (v := resV c 0 (.slice none 0 0)) (res63 (b := w.heap.size) rfl A8.1.2.1) rfl ?_
      refine ⟨none, 0, by rw [V.out.1]; rfl, ?_⟩
      rw [V.out.1, V.out.2]
      exact All.addNil (A8.tail.sublist (.cons_cons _ (.cons _ (.refl _))))
    · have ee : ((r.num 4).err != 0) = true := by simpa using he
      have V : Hid (r.resV = ⟨0, 0, []⟩ ∧ r.res = (r.num 4)) := hid ⟨by rw [Rst.resV, F.out, if_neg he], by rw [Rst.res, F.out]⟩
      clear he F
      go_wp2
      have A8 := (((A7.out.swap.setBlk 0 (.int .i64 0)).setBlk 1 (.int .i64 0)).setBlk 2 (.slice none 0 0))
      refine bodyPost_ret (v := resV 0 0 (.slice none 0 0)) (res63 (b := w.heap.size) rfl A8.1.2.1) rfl ?_
      refine ⟨none, 0, by rw [V.out.1]; rfl, ?_⟩
      rw [V.out.1, V.out.2]
      exact All.addNil (A8.tail.sublist (.cons_cons _ (.cons _ (.refl _))))

end Go.Proofs.Ytagdpfghooogfaa

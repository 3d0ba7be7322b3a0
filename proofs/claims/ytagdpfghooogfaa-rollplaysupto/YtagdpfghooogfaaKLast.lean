import Derived.Test.YtagdpfghooogfaaJ7
namespace Go.Proofs.Ytagdpfghooogfaa
open Go.RowKit
set_option linter.unusedVariables false

theorem step_append_own2 {P : Program} {w : World} {ops : Array Oper} {o : Oper} {a : Act} {K : Act → World → Prop} {Q : Exit → Act → World → Prop} {E : Prop} (hgd : o.guard = none) (s x : Operand) (t : TypeId)
    (ho : o.op = .call { callee := .builtin .append, args := #[s, x], argTypes := #[t, t] })
    (base : Nat) (e : TypeId) (i : TypeInfo) (z : Value) (size bytes : Nat) (ht : P.underlying t = some (.slice e)) (hi : P.info? e = some i) (hz : i.zero = some z)
    (hsize : i.size = size) (hby : i.bytes = bytes) (hzs : z.cells.size = size) (hsz : 0 < size)
    (v : Value) (n : Nat) (xs : List Value) (hs : a.eval s = v) (hown : w.ownsRow base e size v n xs)
    (ad : Addr) (m c : Nat) (news : List Value) (hx : a.eval x = .slice (some ad) m c) (hl : news.length = m * size) (hnews : ∀ j u, news[j]? = some u → w.cell? (ad.add j) = some u) (h1 : ∀ u ∈ news, u.oneCell' = true)
    (h63 : n + m ≤ maxLen) (hbytes : (n + m) * bytes ≤ 140737488355328) (hbase : base ≤ w.heap.size)
    (h : ∀ ao cap w', w'.ownsRow base e size (.slice ao (n + m) cap) (n + m) (xs ++ news) → w.grownBy w' v.ownBlock → ((Value.slice ao (n + m) cap).ownBlock = v.ownBlock ∨ (Value.slice ao (n + m) cap).ownBlock = some w.heap.size) → K (a.put o.dst (.slice ao (n + m) cap)) w') :
    if Region.wanted o (yielded ops a.tmps) = true then Oper.wp P o a w K Q else E := by
  have hw : Region.wanted o (yielded ops a.tmps) = true := by simp [Region.wanted, hgd]
  rw [if_pos hw]
  obtain ⟨v', w', hr, h2, h3, h4, h5⟩ := run_append_own_at (P := P) w base t o.type e i z size bytes ht hi hz hsize hby hzs hsz v n xs hown ad m c news hl hnews h1 h63 hbytes hbase
  obtain ⟨ao, cap, hv⟩ := owns_form h2
  subst hv
  unfold Oper.wp execOp
  simp only [ho, resolve, invoke, builtin, Sem.run_bind, Sem.run_pure, Result.andThen_ok, List.map_toArray, List.map_cons, List.map_nil, hs, hx, hr]
  exact h ao cap w' h2 h3 h5

def tpart (x : Value × List ByteArray) : Comp := ownC 9 x.1 (cellsT x.2)

set_option maxHeartbeats 6400000 in
set_option maxRecDepth 1000000 in
/-- Book.last. -/
theorem klast_any {b g h : Nat} {vi vt : Value} {is ts : List Value} {ps qs : List Pl} {cs : List Comp} {w : World} (tw : Twin ps qs) (hA : All (rollL g ps ++ (xrollL h qs ++ (bookC b vi is vt ts ++ cs))) w) (his : is.length ≤ 100000000) (cl : Int) :
    Calls Try.prog 15 #[.pointer (some ⟨b, 0, none⟩), .pointer (some ⟨g, 0, none⟩), .pointer (some ⟨h, 0, none⟩), .int .i64 cl] w fun e w' => e = .returned (.bool true) ∧ ∃ (vi' x1 : Value) (l1 : List ByteArray) (y1 : Value) (l2 : List ByteArray), (l1.length ≤ 1000 ∧ l2.length ≤ 1000) ∧ Hid (All (rollL g ps ++ (xrollL h qs ++ (bookC b vi' (is ++ [x1, y1]) vt ts ++ (tpart (x1, l1) :: tpart (y1, l2) :: cs)))) w') := by
  have HT := hid tw
  obtain ⟨p, hp⟩ : ∃ p, Hid (p = atP ps cl) := ⟨_, hid rfl⟩
  obtain ⟨q, hq⟩ : ∃ q, Hid (q = atP qs cl) := ⟨_, hid rfl⟩
  obtain ⟨n1, hn1⟩ : ∃ n1, Hid (n1 = p.l.length) := ⟨_, hid rfl⟩
  obtain ⟨n3, hn3⟩ : ∃ n3, Hid (n3 = q.l.length) := ⟨_, hid rfl⟩
  have SM : Hid (q.on = p.on ∧ q.n = p.n ∧ q.a = p.a ∧ q.c = p.c ∧ q.k = p.k ∧ q.l = p.l) := hid (by rw [hp.out, hq.out]; exact tw.same cl)
  have hlp : Hid (p.l.length ≤ 9223372036854775807) := hid (by
    rw [hp.out]
    rcases tw.okp.at cl with ⟨_, hh⟩ | ⟨_, hh⟩
    · rw [hh.2.2.2.2]; simp
    · have := may_parts hh; omega)
  have hlp2 : Hid (p.l.length ≤ 1000) := hid (by
    rw [hp.out]
    rcases tw.okp.at cl with ⟨_, hh⟩ | ⟨_, hh⟩
    · rw [hh.2.2.2.2]; simp
    · have := may_parts hh; omega)
  obtain ⟨i0, hi, hz0, hz1, hz2⟩ := info_parts Try.info35
  have C1 := hid (last_any hA tw.okp cl)
  rw [← hp.out, ← hn1.out] at C1
  obtain ⟨D, hD⟩ : ∃ D, Hid (D = bookC b vi is vt ts ++ cs) := ⟨_, hid rfl⟩
  rw [← hD.out] at C1
  clear hA tw
  go_enter Try.func15, Try.ntmps15
  go_wp2_with fail
  refine C1.out.mono ?_
  rintro e w1 ⟨so1, sc1, rfl, A1⟩
  have A2 := hid ((A1.addBlk [.int .i64 p.n, .int .i64 p.a, .int .i64 p.c, .int .i64 p.k, .slice so1 n1 sc1] 39).perm (by
    have := perm_by 4 [[blkC w1.heap.size [.int .i64 p.n, .int .i64 p.a, .int .i64 p.c, .int .i64 p.k, .slice so1 n1 sc1] 39, ownC 9 (.slice so1 n1 sc1) (cellsT p.l)], rollL g ps, xrollL h qs, D] [1, 2, 0, 3] rfl (by decide)
    simpa [List.getD] using this : List.Perm _ (rollL g ps ++ (xrollL h qs ++ ([blkC w1.heap.size [.int .i64 p.n, .int .i64 p.a, .int .i64 p.c, .int .i64 p.k, .slice so1 n1 sc1] 39, ownC 9 (.slice so1 n1 sc1) (cellsT p.l)] ++ D)))))
  have C2 := hid (last_any A2.out HT.out.okp cl)
  rw [← hp.out, ← hn1.out] at C2
  clear C1 A1
  go_wp2_with fail
  refine C2.out.mono ?_
  rintro e w2 ⟨so2, sc2, rfl, A3⟩
  have A4 := hid ((A3.addBlk [.int .i64 p.n, .int .i64 p.a, .int .i64 p.c, .int .i64 p.k, .slice so2 n1 sc2] 39).perm (by
    have := perm_by 5 [[blkC w2.heap.size [.int .i64 p.n, .int .i64 p.a, .int .i64 p.c, .int .i64 p.k, .slice so2 n1 sc2] 39, ownC 9 (.slice so2 n1 sc2) (cellsT p.l)], rollL g ps, xrollL h qs, [blkC w1.heap.size [.int .i64 p.n, .int .i64 p.a, .int .i64 p.c, .int .i64 p.k, .slice so1 n1 sc1] 39, ownC 9 (.slice so1 n1 sc1) (cellsT p.l)], D] [2, 0, 1, 3, 4] rfl (by decide)
    simpa [List.getD] using this : List.Perm _ (xrollL h qs ++ ([blkC w2.heap.size [.int .i64 p.n, .int .i64 p.a, .int .i64 p.c, .int .i64 p.k, .slice so2 n1 sc2] 39, ownC 9 (.slice so2 n1 sc2) (cellsT p.l)] ++ (rollL g ps ++ ([blkC w1.heap.size [.int .i64 p.n, .int .i64 p.a, .int .i64 p.c, .int .i64 p.k, .slice so1 n1 sc1] 39, ownC 9 (.slice so1 n1 sc1) (cellsT p.l)] ++ D))))))
  have C3 := hid (xlast_any A4.out HT.out.okq cl)
  rw [← hq.out, ← hn3.out] at C3
  clear C2 A2 A3
  go_wp2_with fail
  refine C3.out.mono ?_
  rintro e w3 ⟨so3, sc3, rfl, A5⟩
  have A6 := hid (show All ([blkC w3.heap.size [.int .i64 q.n, .int .i64 q.a, .int .i64 q.c, .int .i64 q.k, .slice so3 n3 sc3] 39, ownC 9 (.slice so3 n3 sc3) (cellsT q.l)] ++ (xrollL h qs ++ ([blkC w2.heap.size [.int .i64 p.n, .int .i64 p.a, .int .i64 p.c, .int .i64 p.k, .slice so2 n1 sc2] 39, ownC 9 (.slice so2 n1 sc2) (cellsT p.l)] ++ (rollL g ps ++ ([blkC w1.heap.size [.int .i64 p.n, .int .i64 p.a, .int .i64 p.c, .int .i64 p.k, .slice so1 n1 sc1] 39, ownC 9 (.slice so1 n1 sc1) (cellsT p.l)] ++ D))))) (w3.alloc (.cells #[.int .i64 q.n, .int .i64 q.a, .int .i64 q.c, .int .i64 q.k, .slice so3 n3 sc3] 39)) from A5.addBlk [.int .i64 q.n, .int .i64 q.a, .int .i64 q.c, .int .i64 q.k, .slice so3 n3 sc3] 39)
  clear C3 A4 A5
  obtain ⟨w4, hw4⟩ : ∃ w4, w4 = w3.alloc (.cells #[.int .i64 q.n, .int .i64 q.a, .int .i64 q.c, .int .i64 q.k, .slice so3 n3 sc3] 39) := ⟨_, rfl⟩
  have TX : Hid (∀ W, All ([blkC w3.heap.size [.int .i64 q.n, .int .i64 q.a, .int .i64 q.c, .int .i64 q.k, .slice so3 n3 sc3] 39, ownC 9 (.slice so3 n3 sc3) (cellsT q.l)] ++ (xrollL h qs ++ ([blkC w2.heap.size [.int .i64 p.n, .int .i64 p.a, .int .i64 p.c, .int .i64 p.k, .slice so2 n1 sc2] 39, ownC 9 (.slice so2 n1 sc2) (cellsT p.l)] ++ (rollL g ps ++ ([blkC w1.heap.size [.int .i64 p.n, .int .i64 p.a, .int .i64 p.c, .int .i64 p.k, .slice so1 n1 sc1] 39, ownC 9 (.slice so1 n1 sc1) (cellsT p.l)] ++ D))))) W → Txts W (.slice so1 n1 sc1) p.l ∧ Txts W (.slice so2 n1 sc2) p.l ∧ Txts W (.slice so3 n3 sc3) q.l) := hid (fun W hW => by
    have h1 : W.ownsRow 0 9 1 (.slice so1 n1 sc1) (cellsT p.l).length (cellsT p.l) := (hW.mem (c := ownC 9 (.slice so1 n1 sc1) (cellsT p.l)) (by simp)).2.1
    have h2 : W.ownsRow 0 9 1 (.slice so2 n1 sc2) (cellsT p.l).length (cellsT p.l) := (hW.mem (c := ownC 9 (.slice so2 n1 sc2) (cellsT p.l)) (by simp)).2.1
    have h3 : W.ownsRow 0 9 1 (.slice so3 n3 sc3) (cellsT q.l).length (cellsT q.l) := (hW.mem (c := ownC 9 (.slice so3 n3 sc3) (cellsT q.l)) (by simp)).2.1
    rw [cellsT_length] at h1 h2 h3
    exact ⟨Txts.of_owns h1, Txts.of_owns h2, Txts.of_owns h3⟩)
  have EQ : Hid (decide (p.n = q.n ∧ p.a = q.a ∧ p.c = q.c ∧ p.k = q.k ∧ p.l = q.l) = true) := hid (by
    obtain ⟨_, h2, h3, h4, h5, h6⟩ := SM.out
    simp [h2, h3, h4, h5, h6])
  have WQ : Hid (∀ W, W = w3.alloc (.cells #[.int .i64 q.n, .int .i64 q.a, .int .i64 q.c, .int .i64 q.k, .slice so3 n3 sc3] 39) → Calls Try.prog 24 #[rowV p.n p.a p.c p.k (.slice so1 n1 sc1), rowV q.n q.a q.c q.k (.slice so3 n3 sc3)] W fun e w' => e = .returned (.bool true) ∧ Below W.heap.size W w') := hid (by
    rintro W rfl
    have := sameRow_any (n := p.n) (a := p.a) (c := p.c) (k := p.k) (n' := q.n) (a' := q.a) (c' := q.c) (k' := q.k) (TX.out _ A6.out).1 (TX.out _ A6.out).2.2 hlp.out
    rw [EQ.out] at this
    exact this)
  have erx : (w3.alloc (.cells #[.int .i64 q.n, .int .i64 q.a, .int .i64 q.c, .int .i64 q.k, .slice so3 n3 sc3] 39)).heap[w1.heap.size]? = some (.cells #[.int .i64 p.n, .int .i64 p.a, .int .i64 p.c, .int .i64 p.k, .slice so1 n1 sc1] 39 (0, 0)) := A6.out.blk (vs := [.int .i64 p.n, .int .i64 p.a, .int .i64 p.c, .int .i64 p.k, .slice so1 n1 sc1]) (by simp)
  have x0 : (w3.alloc (.cells #[.int .i64 q.n, .int .i64 q.a, .int .i64 q.c, .int .i64 q.k, .slice so3 n3 sc3] 39)).cell? ⟨w1.heap.size, 0, none⟩ = some (.int .i64 p.n) := by rw [cell_at erx]; rfl
  have x1 : (w3.alloc (.cells #[.int .i64 q.n, .int .i64 q.a, .int .i64 q.c, .int .i64 q.k, .slice so3 n3 sc3] 39)).cell? ⟨w1.heap.size, 1, none⟩ = some (.int .i64 p.a) := by rw [cell_at erx]; rfl
  have x2 : (w3.alloc (.cells #[.int .i64 q.n, .int .i64 q.a, .int .i64 q.c, .int .i64 q.k, .slice so3 n3 sc3] 39)).cell? ⟨w1.heap.size, 2, none⟩ = some (.int .i64 p.c) := by rw [cell_at erx]; rfl
  have x3 : (w3.alloc (.cells #[.int .i64 q.n, .int .i64 q.a, .int .i64 q.c, .int .i64 q.k, .slice so3 n3 sc3] 39)).cell? ⟨w1.heap.size, 3, none⟩ = some (.int .i64 p.k) := by rw [cell_at erx]; rfl
  have x4 : (w3.alloc (.cells #[.int .i64 q.n, .int .i64 q.a, .int .i64 q.c, .int .i64 q.k, .slice so3 n3 sc3] 39)).cell? ⟨w1.heap.size, 4, none⟩ = some (.slice so1 n1 sc1) := by rw [cell_at erx]; rfl
  clear erx
  have erz : (w3.alloc (.cells #[.int .i64 q.n, .int .i64 q.a, .int .i64 q.c, .int .i64 q.k, .slice so3 n3 sc3] 39)).heap[w3.heap.size]? = some (.cells #[.int .i64 q.n, .int .i64 q.a, .int .i64 q.c, .int .i64 q.k, .slice so3 n3 sc3] 39 (0, 0)) := A6.out.blk (vs := [.int .i64 q.n, .int .i64 q.a, .int .i64 q.c, .int .i64 q.k, .slice so3 n3 sc3]) (by simp)
  have z0 : (w3.alloc (.cells #[.int .i64 q.n, .int .i64 q.a, .int .i64 q.c, .int .i64 q.k, .slice so3 n3 sc3] 39)).cell? ⟨w3.heap.size, 0, none⟩ = some (.int .i64 q.n) := by rw [cell_at erz]; rfl
  have z1 : (w3.alloc (.cells #[.int .i64 q.n, .int .i64 q.a, .int .i64 q.c, .int .i64 q.k, .slice so3 n3 sc3] 39)).cell? ⟨w3.heap.size, 1, none⟩ = some (.int .i64 q.a) := by rw [cell_at erz]; rfl
  have z2 : (w3.alloc (.cells #[.int .i64 q.n, .int .i64 q.a, .int .i64 q.c, .int .i64 q.k, .slice so3 n3 sc3] 39)).cell? ⟨w3.heap.size, 2, none⟩ = some (.int .i64 q.c) := by rw [cell_at erz]; rfl
  have z3 : (w3.alloc (.cells #[.int .i64 q.n, .int .i64 q.a, .int .i64 q.c, .int .i64 q.k, .slice so3 n3 sc3] 39)).cell? ⟨w3.heap.size, 3, none⟩ = some (.int .i64 q.k) := by rw [cell_at erz]; rfl
  have z4 : (w3.alloc (.cells #[.int .i64 q.n, .int .i64 q.a, .int .i64 q.c, .int .i64 q.k, .slice so3 n3 sc3] 39)).cell? ⟨w3.heap.size, 4, none⟩ = some (.slice so3 n3 sc3) := by rw [cell_at erz]; rfl
  clear erz
  clear hw4
  go_wp2_with fail
  refine (WQ.out _ rfl).mono ?_
  rintro e w5 ⟨rfl, B5⟩
  have A7 := hid (A6.out.later B5)
  clear A6 WQ B5 x0 x1 x2 x3 x4 z0 z1 z2 z3 z4
  have ery : w5.heap[w2.heap.size]? = some (.cells #[.int .i64 p.n, .int .i64 p.a, .int .i64 p.c, .int .i64 p.k, .slice so2 n1 sc2] 39 (0, 0)) := A7.out.blk (vs := [.int .i64 p.n, .int .i64 p.a, .int .i64 p.c, .int .i64 p.k, .slice so2 n1 sc2]) (by simp)
  have y0 : w5.cell? ⟨w2.heap.size, 0, none⟩ = some (.int .i64 p.n) := by rw [cell_at ery]; rfl
  have y1 : w5.cell? ⟨w2.heap.size, 1, none⟩ = some (.int .i64 p.a) := by rw [cell_at ery]; rfl
  have y2 : w5.cell? ⟨w2.heap.size, 2, none⟩ = some (.int .i64 p.c) := by rw [cell_at ery]; rfl
  have y3 : w5.cell? ⟨w2.heap.size, 3, none⟩ = some (.int .i64 p.k) := by rw [cell_at ery]; rfl
  have y4 : w5.cell? ⟨w2.heap.size, 4, none⟩ = some (.slice so2 n1 sc2) := by rw [cell_at ery]; rfl
  clear ery
  have erz : w5.heap[w3.heap.size]? = some (.cells #[.int .i64 q.n, .int .i64 q.a, .int .i64 q.c, .int .i64 q.k, .slice so3 n3 sc3] 39 (0, 0)) := A7.out.blk (vs := [.int .i64 q.n, .int .i64 q.a, .int .i64 q.c, .int .i64 q.k, .slice so3 n3 sc3]) (by simp)
  have z0 : w5.cell? ⟨w3.heap.size, 0, none⟩ = some (.int .i64 q.n) := by rw [cell_at erz]; rfl
  have z1 : w5.cell? ⟨w3.heap.size, 1, none⟩ = some (.int .i64 q.a) := by rw [cell_at erz]; rfl
  have z2 : w5.cell? ⟨w3.heap.size, 2, none⟩ = some (.int .i64 q.c) := by rw [cell_at erz]; rfl
  have z3 : w5.cell? ⟨w3.heap.size, 3, none⟩ = some (.int .i64 q.k) := by rw [cell_at erz]; rfl
  have z4 : w5.cell? ⟨w3.heap.size, 4, none⟩ = some (.slice so3 n3 sc3) := by rw [cell_at erz]; rfl
  clear erz
  have C5 := sameRow_any (n := p.n) (a := p.a) (c := p.c) (k := p.k) (n' := q.n) (a' := q.a) (c' := q.c) (k' := q.k) (TX.out _ A7.out).2.1 (TX.out _ A7.out).2.2 hlp.out
  rw [EQ.out] at C5
  have C5 := hid C5
  go_wp2_with fail
  refine C5.out.mono ?_
  rintro e w6 ⟨rfl, B6⟩
  have A8 := hid (A7.out.later B6)
  clear A7 C5 B6 y0 y1 y2 y3 y4 z0 z1 z2 z3 z4
  rw [hD.out] at A8
  have A9 : All (ownC 35 vi is :: blkC b [vi, vt] 34 :: (blkC w1.heap.size [.int .i64 p.n, .int .i64 p.a, .int .i64 p.c, .int .i64 p.k, .slice so1 n1 sc1] 39 :: blkC w2.heap.size [.int .i64 p.n, .int .i64 p.a, .int .i64 p.c, .int .i64 p.k, .slice so2 n1 sc2] 39 :: (ownC 40 vt ts :: (rollL g ps ++ (xrollL h qs ++ (tpart (.slice so1 n1 sc1, p.l) :: tpart (.slice so2 n1 sc2, p.l) :: cs)))))) w6 := by
    have h1 := A8.out.sublist (show List.Sublist ([ownC 9 (.slice so3 n3 sc3) (cellsT q.l)] ++ (xrollL h qs ++ ([blkC w2.heap.size [.int .i64 p.n, .int .i64 p.a, .int .i64 p.c, .int .i64 p.k, .slice so2 n1 sc2] 39, ownC 9 (.slice so2 n1 sc2) (cellsT p.l)] ++ (rollL g ps ++ ([blkC w1.heap.size [.int .i64 p.n, .int .i64 p.a, .int .i64 p.c, .int .i64 p.k, .slice so1 n1 sc1] 39, ownC 9 (.slice so1 n1 sc1) (cellsT p.l)] ++ (bookC b vi is vt ts ++ cs)))))) _ from .cons _ (.refl _))
    have h2 := h1.tail
    refine h2.perm ?_
    have := perm_by 11 [xrollL h qs, [blkC w2.heap.size [.int .i64 p.n, .int .i64 p.a, .int .i64 p.c, .int .i64 p.k, .slice so2 n1 sc2] 39], [ownC 9 (.slice so2 n1 sc2) (cellsT p.l)], rollL g ps, [blkC w1.heap.size [.int .i64 p.n, .int .i64 p.a, .int .i64 p.c, .int .i64 p.k, .slice so1 n1 sc1] 39], [ownC 9 (.slice so1 n1 sc1) (cellsT p.l)], [blkC b [vi, vt] 34], [ownC 35 vi is], [ownC 40 vt ts], cs, []] [7, 6, 4, 1, 8, 3, 0, 5, 2, 9, 10] rfl (by decide)
    simpa [bookC, tpart, List.getD] using this
  obtain ⟨tq, tc, rfl⟩ := owns_form (show w6.ownsRow 0 35 1 vi is.length is from A9.1.2.1)
  obtain ⟨nt, hnt⟩ : ∃ nt, Hid (nt = is.length) := ⟨_, hid rfl⟩
  have hnt5 : nt ≤ 100000000 := by rw [hnt.out]; exact his
  rw [← hnt.out] at A9
  have A9 := hid A9
  have A10 := hid (A9.out.drew.alloc (.cells #[.slice so1 n1 sc1, .slice so2 n1 sc2] 35))
  have erx : w6.heap[b]? = some (.cells #[.slice tq nt tc, vt] 34 (0, 0)) := A9.out.tail.1.2.1
  have x0 : w6.cell? ⟨b, 0, none⟩ = some (.slice tq nt tc) := by rw [cell_at erx]; rfl
  have x1 : w6.cell? ⟨b, 1, none⟩ = some (vt) := by rw [cell_at erx]; rfl
  have fx0 : w6.frozen? ⟨b, 0, none⟩ = false := free_at erx 0
  have fx1 : w6.frozen? ⟨b, 1, none⟩ = false := free_at erx 1
  clear erx
  have eru : w6.heap[w1.heap.size]? = some (.cells #[.int .i64 p.n, .int .i64 p.a, .int .i64 p.c, .int .i64 p.k, .slice so1 n1 sc1] 39 (0, 0)) := A9.out.blk (vs := [.int .i64 p.n, .int .i64 p.a, .int .i64 p.c, .int .i64 p.k, .slice so1 n1 sc1]) (by simp)
  have u0 : w6.cell? ⟨w1.heap.size, 0, none⟩ = some (.int .i64 p.n) := by rw [cell_at eru]; rfl
  have u1 : w6.cell? ⟨w1.heap.size, 1, none⟩ = some (.int .i64 p.a) := by rw [cell_at eru]; rfl
  have u2 : w6.cell? ⟨w1.heap.size, 2, none⟩ = some (.int .i64 p.c) := by rw [cell_at eru]; rfl
  have u3 : w6.cell? ⟨w1.heap.size, 3, none⟩ = some (.int .i64 p.k) := by rw [cell_at eru]; rfl
  have u4 : w6.cell? ⟨w1.heap.size, 4, none⟩ = some (.slice so1 n1 sc1) := by rw [cell_at eru]; rfl
  clear eru
  have ery : w6.heap[w2.heap.size]? = some (.cells #[.int .i64 p.n, .int .i64 p.a, .int .i64 p.c, .int .i64 p.k, .slice so2 n1 sc2] 39 (0, 0)) := A9.out.blk (vs := [.int .i64 p.n, .int .i64 p.a, .int .i64 p.c, .int .i64 p.k, .slice so2 n1 sc2]) (by simp)
  have y0 : w6.cell? ⟨w2.heap.size, 0, none⟩ = some (.int .i64 p.n) := by rw [cell_at ery]; rfl
  have y1 : w6.cell? ⟨w2.heap.size, 1, none⟩ = some (.int .i64 p.a) := by rw [cell_at ery]; rfl
  have y2 : w6.cell? ⟨w2.heap.size, 2, none⟩ = some (.int .i64 p.c) := by rw [cell_at ery]; rfl
  have y3 : w6.cell? ⟨w2.heap.size, 3, none⟩ = some (.int .i64 p.k) := by rw [cell_at ery]; rfl
  have y4 : w6.cell? ⟨w2.heap.size, 4, none⟩ = some (.slice so2 n1 sc2) := by rw [cell_at ery]; rfl
  clear ery
  have hbl : b < w6.heap.size := World.block_lt_of_cell? w6 _ x0
  have hul : w1.heap.size < w6.heap.size := World.block_lt_of_cell? w6 _ u0
  have hyl : w2.heap.size < w6.heap.size := World.block_lt_of_cell? w6 _ y0
  have hrow : (w6.drew.alloc (.cells #[.slice so1 n1 sc1, .slice so2 n1 sc2] 35)).ownsRow 0 35 1 (.slice tq nt tc) nt is := by
    have h1 : (w6.drew.alloc (.cells #[.slice so1 n1 sc1, .slice so2 n1 sc2] 35)).ownsRow 0 35 1 (.slice tq nt tc) is.length is := A10.out.1.2.1
    rw [← hnt.out] at h1
    exact h1
  have hnews : ∀ j u, [.slice so1 n1 sc1, .slice so2 n1 sc2][j]? = some u → (w6.drew.alloc (.cells #[.slice so1 n1 sc1, .slice so2 n1 sc2] 35)).cell? ((⟨w6.heap.size, 0, none⟩ : Addr).add j) = some u := by
    intro j u hu
    rw [Addr.add_lit, cell_at (show (w6.drew.alloc (.cells #[.slice so1 n1 sc1, .slice so2 n1 sc2] 35)).heap[w6.heap.size]? = some (.cells #[.slice so1 n1 sc1, .slice so2 n1 sc2] 35) from heap_alloc_new w6.drew _)]
    match j with
    | 0 => simpa using hu
    | 1 => simpa using hu
    | j + 2 => simp at hu
  have hone : ∀ u ∈ [Value.slice so1 n1 sc1, Value.slice so2 n1 sc2], u.oneCell' = true := by
    intro u hu
    simp only [List.mem_cons, List.not_mem_nil, or_false] at hu
    rcases hu with rfl | rfl <;> rfl
  have FIN : Hid (∀ ao cap w', w'.ownsRow 0 35 1 (.slice ao (nt + 2) cap) (nt + 2) (is ++ [.slice so1 n1 sc1, .slice so2 n1 sc2]) → (w6.drew.alloc (.cells #[.slice so1 n1 sc1, .slice so2 n1 sc2] 35)).grownBy w' (Value.slice tq nt tc).ownBlock → ((Value.slice ao (nt + 2) cap).ownBlock = (Value.slice tq nt tc).ownBlock ∨ (Value.slice ao (nt + 2) cap).ownBlock = some (w6.drew.alloc (.cells #[.slice so1 n1 sc1, .slice so2 n1 sc2] 35)).heap.size) → w'.cell? ⟨b, 0, none⟩ = some (.slice tq nt tc) ∧ w'.frozen? ⟨b, 0, none⟩ = false ∧ Hid (All (rollL g ps ++ (xrollL h qs ++ (bookC b (.slice ao (nt + 2) cap) (is ++ [.slice so1 n1 sc1, .slice so2 n1 sc2]) vt ts ++ (tpart (.slice so1 n1 sc1, p.l) :: tpart (.slice so2 n1 sc2, p.l) :: cs)))) (w'.setCell ⟨b, 0, none⟩ (.slice ao (nt + 2) cap)))) := hid (by
    intro ao cap w' ho hg hat
    have h1 := A10.out.ownGrow (vs' := is ++ [.slice so1 n1 sc1, .slice so2 n1 sc2]) (base := 0) (v' := .slice ao (nt + 2) cap) (by
      rw [List.length_append, ← hnt.out]
      exact ho) hg hat
    have eb : w'.heap[b]? = some (.cells #[.slice tq nt tc, vt] 34 (0, 0)) := h1.tail.1.2.1
    refine ⟨by rw [cell_at eb]; rfl, free_at eb 0, hid ?_⟩
    have h2 := h1.swap.setBlk 0 (.slice ao (nt + 2) cap)
    have h3 := h2.sublist (show List.Sublist (blkC b [.slice ao (nt + 2) cap, vt] 34 :: ownC 35 (.slice ao (nt + 2) cap) (is ++ [.slice so1 n1 sc1, .slice so2 n1 sc2]) :: (ownC 40 vt ts :: (rollL g ps ++ (xrollL h qs ++ (tpart (.slice so1 n1 sc1, p.l) :: tpart (.slice so2 n1 sc2, p.l) :: cs))))) _ from .cons_cons _ (.cons_cons _ (.cons _ (.cons _ (.refl _)))))
    refine h3.perm ?_
    have := perm_by 6 [[blkC b [.slice ao (nt + 2) cap, vt] 34], [ownC 35 (.slice ao (nt + 2) cap) (is ++ [.slice so1 n1 sc1, .slice so2 n1 sc2])], [ownC 40 vt ts], rollL g ps, xrollL h qs, tpart (.slice so1 n1 sc1, p.l) :: tpart (.slice so2 n1 sc2, p.l) :: cs] [3, 4, 0, 1, 2, 5] rfl (by decide)
    simpa [bookC, List.getD] using this)
  obtain ⟨bp, hbp⟩ : ∃ bp, Hid (bp = p.on) := ⟨_, hid rfl⟩
  have hqo : q.on = bp := by rw [hbp.out]; exact SM.out.1
  rw [hqo, ← hbp.out]
  clear hqo A8 A9 A10 hD his
  go_upto_region 6 with fail
  go_region_law (first | (refine step_append_own2 (by rfl) (.tmp 45) (.tmp 52) 31 (by rfl) 0 35 i0 (.slice none 0 0) 1 24 Try.underlying31 hi hz0 hz1 hz2 rfl (by decide) _ nt is (by rfl) hrow _ 2 2 _ (by rfl) (by rfl) hnews hone (by unfold maxLen; omega) (by omega) (by omega) ?_; intro ao' cap' w7 ho7 hg7 hat7; obtain ⟨k0, fk, HF⟩ := FIN.out _ _ _ ho7 hg7 hat7; clear ho7 hg7 hat7))
  all_goals clear FIN hrow hnews hone
  all_goals clear k0 fk x0 x1 fx0 fx1 u0 u1 u2 u3 u4 y0 y1 y2 y3 y4
  all_goals cases bp
  all_goals (go_wp2; go_ret; exact ⟨rfl, .slice ao' (nt + 2) cap', .slice so1 n1 sc1, p.l, .slice so2 n1 sc2, p.l, ⟨hlp2.out, hlp2.out⟩, HF⟩)
end Go.Proofs.Ytagdpfghooogfaa

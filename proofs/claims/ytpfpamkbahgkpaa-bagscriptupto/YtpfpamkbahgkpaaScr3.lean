import Derived.Test.YtpfpamkbahgkpaaScr2
namespace Go.Proofs.Ytpfpamkbahgkpaa
open Go.RowKit
set_option linter.unusedVariables false

theorem same_lists {cs : List Comp} {w : World} {v v' : Value} {qs rs : List Pk} (A : All cs w) (h1 : pkC v qs ∈ cs) (h2 : ∀ q ∈ qs, byC q.D q.bs ∈ cs) (g1 : pkC v' rs ∈ cs) (g2 : ∀ q ∈ rs, byC q.D q.bs ∈ cs) (e : qs.map Pk.ap = rs.map Pk.ap) (hl : ∀ q ∈ qs, q.bs.length ≤ 1099511627776) (hn : qs.length ≤ 1024) :
    Calls Try.prog 16 #[v, v'] w fun e w' => e = .returned (.bool true) ∧ All cs w' := by
  refine (samePackets_true (w := w) e (PksAt.of_owns (A.mem h1).2.1) (PksAt.of_owns (A.mem g1).2.1) (fun q hq => ⟨A.byReads (h2 q hq), by have := hl q hq; omega⟩) (fun q hq => A.byReads (g2 q hq)) (by omega)).mono ?_
  rintro e w' ⟨rfl, hb⟩
  exact ⟨rfl, A.later hb⟩
theorem All.right {w : World} {ys : List Comp} : ∀ {xs : List Comp}, All (xs ++ ys) w → All ys w
  | [], h => h
  | _ :: t, h => All.right (xs := t) h.tail
theorem AB.Sm.list {A : AB} (h : A.Sm) {qs : List Pk} (e : qs.map Pk.ap = A.ps) : ∀ q ∈ qs, q.bs.length ≤ 1099511627776 := fun q hq => h q.ap (by rw [← e]; exact List.mem_map_of_mem hq)

set_option maxHeartbeats 1600000 in
set_option maxRecDepth 1000000 in
theorem tells_len {B D : Bg} {so : Bool} {ko a b y : Int} {d : List UInt8} {ao : Option Addr} {c : Nat} {P : List (Value × List UInt8)} {cs : List Comp} {w0 w : World} {S M : Nat} (h : Hd w S M (poolC P :: (B.L ++ (D.M ++ cs)))) (hb : B.In P) (hd : D.In P) (he : D.ab = B.ab) {k : Nat} (ho : B.ab.Ok k) (hk : k < 4611686018427387904) (hs : B.ab.Sm) (hM : M + 4096 ≤ 1099511627776) (hko : ko = 5) :
    Calls Try.prog 13 #[B.V, D.V, .pointer (some ⟨S, 0, none⟩), .agg #[.bool so, .int .i64 ko, .int .i64 a, .int .i64 b, .int .i64 y, .slice ao d.length c]] w fun e w' => e = .returned (.bool true) ∧ Dk B D B.ab P cs S (M + 4096) w' := by
  obtain ⟨X, A, hX⟩ := h.split
  have HX := hid hX
  have HE := hid he
  have HB := hid hb
  have HD := hid hd
  have hn : B.ps.length ≤ 1024 := by rw [← B.ab_len]; exact ho.small
  have hnD : D.ps.length ≤ 1024 := by rw [← D.ab_len, he]; exact ho.small
  have A0 : All (poolC P :: (B.L ++ (D.M ++ (cs ++ X)))) (w.alloc (.cells #[.bool so, .int .i64 ko, .int .i64 a, .int .i64 b, .int .i64 y, .slice ao d.length c] 33)) := by have := A.alloc (.cells #[.bool so, .int .i64 ko, .int .i64 a, .int .i64 b, .int .i64 y, .slice ao d.length c] 33); simpa using this
  clear A h hX he hb hd
  subst hko
  have C1 := hid (Len_any (A0.perm (perm12 _ _ _ _)) (by omega))
  have C2 := hid (rLen_any (B := D) ((A0.perm (perm_swap3 _ _ _ _)).perm (perm12 _ _ _ _)) (by omega))
  have el : D.ps.length = B.ps.length := by rw [← D.ab_len, HE.out, B.ab_len]
  rw [el] at C2
  have A0 := hid A0
  clear el hnD
  obtain ⟨n, hN⟩ : ∃ n, Hid (n = B.ps.length) := ⟨_, hid rfl⟩
  rw [← hN.out] at C1 C2
  go_enter Try.func13, Try.ntmps13
  go_wp2_with fail
  refine C1.out.mono ?_
  rintro e w1 ⟨rfl, hw1⟩
  subst hw1
  go_wp2_with fail
  refine C2.out.mono ?_
  rintro e w1 ⟨rfl, hw1⟩
  subst hw1
  go_wp2
  go_ret
  exact ⟨rfl, P, B, D, rfl, rfl, rfl, HE.out, HB.out, HD.out, fun e h => h, (HX.out _ _ (by simpa using A0.out)).more (by omega)⟩

set_option maxHeartbeats 3200000 in
set_option maxRecDepth 1000000 in
theorem tells_list {B D : Bg} {so : Bool} {ko a b y : Int} {d : List UInt8} {ao : Option Addr} {c : Nat} {P : List (Value × List UInt8)} {cs : List Comp} {w0 w : World} {S M : Nat} (h : Hd w S M (poolC P :: (B.L ++ (D.M ++ cs)))) (hb : B.In P) (hd : D.In P) (he : D.ab = B.ab) {k : Nat} (ho : B.ab.Ok k) (hk : k < 4611686018427387904) (hs : B.ab.Sm) (hM : M + 4096 ≤ 1099511627776) (hko : ko = 6) :
    Calls Try.prog 13 #[B.V, D.V, .pointer (some ⟨S, 0, none⟩), .agg #[.bool so, .int .i64 ko, .int .i64 a, .int .i64 b, .int .i64 y, .slice ao d.length c]] w fun e w' => e = .returned (.bool true) ∧ Dk B D B.ab P cs S (M + 4096) w' := by
  obtain ⟨X, A, hX⟩ := h.split
  have HX := hid hX
  have HE := hid he
  have HB := hid hb
  have HD := hid hd
  have hn : B.ps.length ≤ 1024 := by rw [← B.ab_len]; exact ho.small
  have hnD : D.ps.length ≤ 1024 := by rw [← D.ab_len, he]; exact ho.small
  have A0 : All (poolC P :: (B.L ++ (D.M ++ (cs ++ X)))) (w.alloc (.cells #[.bool so, .int .i64 ko, .int .i64 a, .int .i64 b, .int .i64 y, .slice ao d.length c] 33)) := by have := A.alloc (.cells #[.bool so, .int .i64 ko, .int .i64 a, .int .i64 b, .int .i64 y, .slice ao d.length c] 33); simpa using this
  clear A h hX he hb hd
  subst hko
  have hsl := hid (fun (qs : List Pk) (e : qs.map Pk.ap = B.ab.ps) => hs.list e)
  obtain ⟨n, hN⟩ : ∃ n, Hid (n = B.ps.length) := ⟨_, hid rfl⟩
  have hn' : n ≤ 1024 := by rw [hN.out]; exact hn
  have C1 := hid (List_any A0 HB.out hn)
  rw [← hN.out] at C1
  clear A0
  go_enter Try.func13, Try.ntmps13
  go_wp2_with fail
  refine C1.out.mono ?_
  rintro e w1 ⟨H1, q1, rfl, m1, -, A1⟩
  have A2 : All (poolC P :: (B.L ++ (D.M ++ (pkC (.slice (some ⟨H1, 0, none⟩) n n) q1 :: (datL q1 ++ (cs ++ X)))))) w1 := A1.perm (by
    have := perm_by 5 [pkC (.slice (some ⟨H1, 0, none⟩) n n) q1 :: datL q1, [poolC P], B.L, D.M, cs ++ X] [1, 2, 3, 0, 4] rfl (by decide)
    simpa [List.getD] using this)
  have C2 := hid (List_any A2 HB.out hn)
  rw [← hN.out] at C2
  clear C1 A1 A2
  go_wp2_with fail
  refine C2.out.mono ?_
  rintro e w2 ⟨H2, q2, rfl, m2, -, A3⟩
  have A4 : All (poolC P :: (D.M ++ (pkC (.slice (some ⟨H1, 0, none⟩) n n) q1 :: (datL q1 ++ (pkC (.slice (some ⟨H2, 0, none⟩) n n) q2 :: (datL q2 ++ (B.L ++ (cs ++ X)))))))) w2 := A3.perm (by
    have := perm_by 6 [pkC (.slice (some ⟨H2, 0, none⟩) n n) q2 :: datL q2, [poolC P], B.L, D.M, pkC (.slice (some ⟨H1, 0, none⟩) n n) q1 :: datL q1, cs ++ X] [1, 3, 4, 0, 2, 5] rfl (by decide)
    simpa [List.getD] using this)
  have C3 := hid (rList_any (B := D) A4 HD.out hnD)
  clear C2 A3 A4
  go_wp2_with fail
  refine C3.out.mono ?_
  rintro e w3 ⟨v3, q3, rfl, m3, A5⟩
  have eD : D.ps.map Pk.ap = B.ps.map Pk.ap := congrArg AB.ps HE.out
  have l1 : q1.length = n := by rw [hN.out]; have := congrArg List.length m1; simpa using this
  have l2 : q2.length = n := by rw [hN.out]; have := congrArg List.length m2; simpa using this
  have S1 := hid (same_lists (v := .slice (some ⟨H1, 0, none⟩) n n) (v' := v3) (qs := q1) (rs := q3) A5 (by simp) (fun q hq => by have : byC q.D q.bs ∈ datL q1 := List.mem_map.2 ⟨q, hq, rfl⟩; simp only [List.mem_cons, List.mem_append, this, true_or, or_true]) (by simp) (fun q hq => by have : byC q.D q.bs ∈ datL q3 := List.mem_map.2 ⟨q, hq, rfl⟩; simp only [List.mem_cons, List.mem_append, this, true_or, or_true]) (by rw [m1, m3, eD]) (hsl.out q1 m1) (by omega))
  clear C3 A5
  go_wp2_with fail
  refine S1.out.mono ?_
  rintro e w4 ⟨rfl, A6⟩
  have S2 := hid (same_lists (v := .slice (some ⟨H2, 0, none⟩) n n) (v' := .slice (some ⟨H1, 0, none⟩) n n) (qs := q2) (rs := q1) A6 (by simp) (fun q hq => by have : byC q.D q.bs ∈ datL q2 := List.mem_map.2 ⟨q, hq, rfl⟩; simp only [List.mem_cons, List.mem_append, this, true_or, or_true]) (by simp) (fun q hq => by have : byC q.D q.bs ∈ datL q1 := List.mem_map.2 ⟨q, hq, rfl⟩; simp only [List.mem_cons, List.mem_append, this, true_or, or_true]) (by rw [m1, m2]) (hsl.out q2 m2) (by omega))
  clear S1 A6
  go_wp2_with fail
  refine S2.out.mono ?_
  rintro e w5 ⟨rfl, A7⟩
  have A8 : All ((pkC v3 q3 :: datL q3) ++ ((pkC (.slice (some ⟨H1, 0, none⟩) n n) q1 :: (datL q1 ++ (pkC (.slice (some ⟨H2, 0, none⟩) n n) q2 :: (datL q2 ++ (poolC P :: (B.L ++ (D.M ++ cs))))))) ++ X)) w5 := A7.perm (by
    have := perm_by 7 [pkC v3 q3 :: datL q3, [poolC P], D.M, pkC (.slice (some ⟨H1, 0, none⟩) n n) q1 :: datL q1, pkC (.slice (some ⟨H2, 0, none⟩) n n) q2 :: datL q2, B.L, cs ++ X] [0, 3, 4, 1, 5, 2, 6] rfl (by decide)
    simpa [List.getD] using this)
  have I1 := HX.out w5 _ (A8.right)
  have C4 := hid (I1.keepP l1.symm hn' (hsl.out q1 m1) (by omega))
  clear S2 A7 A8 I1
  go_wp2_with fail
  refine C4.out.mono ?_
  rintro e w6 ⟨rfl, I2⟩
  have C5 := hid (I2.keepP l2.symm hn' (hsl.out q2 m2) (by omega))
  clear C4 I2
  go_wp2_with fail
  refine C5.out.mono ?_
  rintro e w7 ⟨rfl, I3⟩
  have I3 := hid I3
  clear C5
  go_wp2
  go_ret
  exact ⟨rfl, P, B, D, rfl, rfl, rfl, HE.out, HB.out, HD.out, fun e h => h, I3.out.more (by omega)⟩

theorem At_full {B : Bg} {j : Int} {P : List (Value × List UInt8)} {cs : List Comp} {w : World} (h : All (poolC P :: (B.L ++ cs)) w) (hi : B.In P) (hn : B.ps.length ≤ 1024) :
    Calls Try.prog 26 #[B.V, .int .i64 j] w fun e w' => ∃ (p : Pk) (B' : Bg), e = .returned (.tuple #[p.V, .bool (hasB j B.ab.ps.length)]) ∧ p.ap = B.ab.at j ∧ B'.b = B.b ∧ B'.ab = B.ab ∧ B'.In P ∧ All (byC p.D p.bs :: poolC P :: (B'.L ++ cs)) w' := by
  refine (At_any (j := j) h hi hn).mono ?_
  rintro e w' ⟨p, rfl, h1, h2⟩
  exact ⟨p, B, by rw [B.ab_len], h1, rfl, rfl, hi, h2⟩
theorem rAt_full {B : Bg} {j : Int} {P : List (Value × List UInt8)} {cs : List Comp} {w : World} (h : All (poolC P :: (B.M ++ cs)) w) (hi : B.In P) (hn : B.ps.length ≤ 1024) :
    Calls Try.prog 42 #[B.V, .int .i64 j] w fun e w' => ∃ (p : Pk) (B' : Bg), e = .returned (.tuple #[p.V, .bool (hasB j B.ab.ps.length)]) ∧ p.ap = B.ab.at j ∧ B'.b = B.b ∧ B'.ab = B.ab ∧ B'.In P ∧ All (byC p.D p.bs :: poolC P :: (B'.M ++ cs)) w' := by
  refine (rAt_any (j := j) h hi hn).mono ?_
  rintro e w' ⟨p, rfl, h1, h2⟩
  exact ⟨p, B, by rw [B.ab_len], h1, rfl, rfl, hi, h2⟩

set_option maxHeartbeats 3200000 in
set_option maxRecDepth 1000000 in
theorem tells_at {B D : Bg} {so : Bool} {ko a b y : Int} {d : List UInt8} {ao : Option Addr} {c : Nat} {P : List (Value × List UInt8)} {cs : List Comp} {w0 w : World} {S M : Nat} (h : Hd w S M (poolC P :: (B.L ++ (D.M ++ cs)))) (hb : B.In P) (hd : D.In P) (he : D.ab = B.ab) {k : Nat} (ho : B.ab.Ok k) (hk : k < 4611686018427387904) (hs : B.ab.Sm) (hM : M + 4096 ≤ 1099511627776) (hko : ko = 7) :
    Calls Try.prog 13 #[B.V, D.V, .pointer (some ⟨S, 0, none⟩), .agg #[.bool so, .int .i64 ko, .int .i64 a, .int .i64 b, .int .i64 y, .slice ao d.length c]] w fun e w' => e = .returned (.bool true) ∧ Dk B D B.ab P cs S (M + 4096) w' := by
  obtain ⟨X, A, hX⟩ := h.split
  have HX := hid hX
  have HE := hid he
  have HB := hid hb
  have HD := hid hd
  have hn : B.ps.length ≤ 1024 := by rw [← B.ab_len]; exact ho.small
  have hnD : D.ps.length ≤ 1024 := by rw [← D.ab_len, he]; exact ho.small
  have hoD : D.ab.Ok k := by rw [he]; exact ho
  have A0 : All (poolC P :: (B.L ++ (D.M ++ (blkC w.heap.size [.bool so, .int .i64 ko, .int .i64 a, .int .i64 b, .int .i64 y, .slice ao d.length c] 33 :: (cs ++ X))))) (w.alloc (.cells #[.bool so, .int .i64 ko, .int .i64 a, .int .i64 b, .int .i64 y, .slice ao d.length c] 33)) := (A.addBlk [.bool so, .int .i64 ko, .int .i64 a, .int .i64 b, .int .i64 y, .slice ao d.length c] 33).perm (by
    have := List.perm_append_comm_assoc [blkC w.heap.size [.bool so, .int .i64 ko, .int .i64 a, .int .i64 b, .int .i64 y, .slice ao d.length c] 33] (poolC P :: (B.L ++ D.M)) (cs ++ X)
    simpa using this)
  clear A h hX he hb hd
  subst hko
  have hsm := hid (hs.at a)
  have C1 := hid (At_full (j := a) A0 HB.out hn)
  obtain ⟨E, hE⟩ : ∃ E, Hid (E = hasB a B.ab.ps.length) := ⟨_, hid rfl⟩
  rw [← hE.out] at C1
  clear A0
  go_enter Try.func13, Try.ntmps13
  go_wp2_with fail
  refine C1.out.mono ?_
  rintro e w1 ⟨p, B1, rfl, hap, e1, e2, e3, A1⟩
  generalize w.heap.size = K at *
  have A2 := A1.addBlk p.cells 49
  have eW : w1.alloc (.cells #[.int .i64 p.n, .int .i64 p.f, .int .i64 p.t, .int .i64 p.a, .int .i64 p.u, .slice p.ao p.bs.length p.c] 49) = w1.alloc (.cells p.cells.toArray 49) := rfl
  have hbk := (A2.mem (c := blkC K [.bool so, .int .i64 7, .int .i64 a, .int .i64 b, .int .i64 y, .slice ao d.length c] 33) (by simp)).2.1
  have t2 : (w1.alloc (.cells p.cells.toArray 49)).cell? ⟨K, 2, none⟩ = some (.int .i64 a) := by rw [cell_at hbk]; rfl
  have A3 : All (poolC P :: (D.M ++ (B1.L ++ (blkC w1.heap.size p.cells 49 :: byC p.D p.bs :: blkC K [.bool so, .int .i64 7, .int .i64 a, .int .i64 b, .int .i64 y, .slice ao d.length c] 33 :: (cs ++ X))))) (w1.alloc (.cells p.cells.toArray 49)) := A2.perm (by
    have := perm_by 6 [[blkC w1.heap.size p.cells 49, byC p.D p.bs], [poolC P], B1.L, D.M, [blkC K [.bool so, .int .i64 7, .int .i64 a, .int .i64 b, .int .i64 y, .slice ao d.length c] 33], cs ++ X] [1, 3, 2, 0, 4, 5] rfl (by decide)
    simpa [List.getD] using this)
  have C2 := hid (rAt_full (j := a) A3 HD.out hnD)
  rw [HE.out, ← hE.out] at C2
  have bE : (E != E) = false := by simp

  have HP := hid (And.intro hap (And.intro e1 (And.intro e2 e3)))
  clear C1 A1 A2 A3 hbk hap e1 e2 e3
  go_wp2_with fail
  refine C2.out.mono ?_
  rintro e w2 ⟨q, D1, rfl, hq, g1, g2, g3, A4⟩
  clear C2 t2
  have HQ := hid (And.intro hq (And.intro g1 (And.intro g2 g3)))
  clear hq g1 g2 g3
  generalize w1.heap.size = K1 at *
  have A5 := A4.addBlk q.cells 49
  clear eW
  have eW : w2.alloc (.cells #[.int .i64 q.n, .int .i64 q.f, .int .i64 q.t, .int .i64 q.a, .int .i64 q.u, .slice q.ao q.bs.length q.c] 49) = w2.alloc (.cells q.cells.toArray 49) := rfl
  obtain ⟨⟨s1, s2, s3, s4, s5, s6⟩, -⟩ := pkAt_blk A5
  have A6 : All (blkC K1 p.cells 49 :: byC p.D p.bs :: byC q.D q.bs :: blkC w2.heap.size q.cells 49 :: blkC K [.bool so, .int .i64 7, .int .i64 a, .int .i64 b, .int .i64 y, .slice ao d.length c] 33 :: (poolC P :: (B1.L ++ (D1.M ++ cs)) ++ X)) (w2.alloc (.cells q.cells.toArray 49)) := A5.perm (by
    have := perm_by 9 [[blkC w2.heap.size q.cells 49], [byC q.D q.bs], [poolC P], D1.M, B1.L, [blkC K1 p.cells 49], [byC p.D p.bs], [blkC K [.bool so, .int .i64 7, .int .i64 a, .int .i64 b, .int .i64 y, .slice ao d.length c] 33], cs ++ X] [5, 6, 1, 0, 7, 2, 4, 3, 8] rfl (by decide)
    simpa [List.getD] using this)
  obtain ⟨⟨z1, z2, z3, z4, z5, z6⟩, -⟩ := pkAt_blk A6
  simp only [Nat.zero_add] at s1 s2 s3 s4 s5 s6 z1 z2 z3 z4 z5 z6
  have hap : p.ap = q.ap := by rw [HP.out.1, HQ.out.1]
  have hpl : p.bs.length ≤ 1099511627776 := by have e9 : p.bs = (B.ab.at a).bs := congrArg AP.bs HP.out.1; rw [e9]; exact hsm.out
  have C3 := hid (samePacket_true hap (A6.byReads (v := p.D) (l := p.bs) (by simp)) (A6.byReads (v := q.D) (l := q.bs) (by simp)) (by omega))
  have A6 := hid A6
  clear A4 A5 hap
  go_wp2_with fail
  refine C3.out.mono ?_
  rintro e w3 ⟨rfl, hb3⟩
  have A7 := A6.out.later hb3
  clear s1 s2 s3 s4 s5 s6 z1 z2 z3 z4 z5 z6 eW A6 C3 hb3
  obtain ⟨⟨z1, z2, z3, z4, z5, z6⟩, -⟩ := pkAt_blk A7
  simp only [Nat.zero_add] at z1 z2 z3 z4 z5 z6
  have A8 : All ((byC p.D p.bs :: poolC P :: (B1.L ++ (D1.M ++ cs))) ++ X) w3 := by
    have A9 := A7.tail
    have A10 : All ([byC p.D p.bs] ++ byC q.D q.bs :: (blkC w2.heap.size q.cells 49 :: blkC K [.bool so, .int .i64 7, .int .i64 a, .int .i64 b, .int .i64 y, .slice ao d.length c] 33 :: (poolC P :: (B1.L ++ (D1.M ++ cs)) ++ X))) w3 := A9
    have A11 : All ([byC p.D p.bs] ++ blkC w2.heap.size q.cells 49 :: (blkC K [.bool so, .int .i64 7, .int .i64 a, .int .i64 b, .int .i64 y, .slice ao d.length c] 33 :: (poolC P :: (B1.L ++ (D1.M ++ cs)) ++ X))) w3 := A10.mid
    have A12 : All ([byC p.D p.bs] ++ blkC K [.bool so, .int .i64 7, .int .i64 a, .int .i64 b, .int .i64 y, .slice ao d.length c] 33 :: (poolC P :: (B1.L ++ (D1.M ++ cs)) ++ X)) w3 := A11.mid
    exact A12.mid
  have C4 := hid (show Calls Try.prog 35 #[.pointer (some ⟨S, 0, none⟩), .slice p.ao p.bs.length p.c] w3 _ from (HX.out _ _ A8).keep hpl (by omega))
  clear A7 A8
  go_wp2_with fail
  refine C4.out.mono ?_
  rintro e w4 ⟨rfl, H4⟩
  have H4 := hid H4
  clear C4 z1 z2 z3 z4 z5 z6
  go_wp2
  go_ret
  exact ⟨rfl, P, B1, D1, HP.out.2.1, HQ.out.2.1, HP.out.2.2.1, HQ.out.2.2.1, HP.out.2.2.2, HQ.out.2.2.2, fun e h => h, H4.out.more (by omega)⟩

set_option maxHeartbeats 1600000 in
set_option maxRecDepth 1000000 in
theorem tells_spoil {B D : Bg} {so : Bool} {ko a b y : Int} {d : List UInt8} {ao : Option Addr} {c : Nat} {P : List (Value × List UInt8)} {cs : List Comp} {w0 w : World} {S M : Nat} (h : Hd w S M (poolC P :: (B.L ++ (D.M ++ cs)))) (hb : B.In P) (hd : D.In P) (he : D.ab = B.ab) {k : Nat} (ho : B.ab.Ok k) (hk : k < 4611686018427387904) (hs : B.ab.Sm) (hM : M + 4096 ≤ 1099511627776) (hko : ko = 9) :
    Calls Try.prog 13 #[B.V, D.V, .pointer (some ⟨S, 0, none⟩), .agg #[.bool so, .int .i64 ko, .int .i64 a, .int .i64 b, .int .i64 y, .slice ao d.length c]] w fun e w' => e = .returned (.bool true) ∧ Dk B D B.ab P cs S (M + 4096) w' := by
  subst hko
  have C1 := hid (Hd.spoil (h.later (ba w (.cells #[.bool so, .int .i64 9, .int .i64 a, .int .i64 b, .int .i64 y, .slice ao d.length c] 33))) (by omega))
  have Q := hid (And.intro he (And.intro hb hd))
  clear h he hb hd
  go_enter Try.func13, Try.ntmps13
  go_wp2_with fail
  refine C1.out.mono ?_
  rintro e w1 ⟨rfl, ov, wv, A1⟩
  have hbk : w1.heap[S]? = some (.cells #[ov, wv] 30 (0, 0)) := A1.1.2.1
  have t0 : w1.cell? ⟨S, 0, none⟩ = some ov := by rw [cell_at hbk]; rfl
  have t1 : w1.cell? ⟨S, 1, none⟩ = some wv := by rw [cell_at hbk]; rfl
  have f0 : w1.frozen? ⟨S, 0, none⟩ = false := free_at hbk 0
  have f1 : w1.frozen? ⟨S, 1, none⟩ = false := free_at hbk 1
  have A2 := hid ((A1.box_set0 (u := .slice none 0 0)).box_set1 (u := .slice none 0 0))
  clear A1 C1 hbk
  go_wp2
  go_ret
  exact ⟨rfl, P, B, D, rfl, rfl, rfl, Q.out.1, Q.out.2.1, Q.out.2.2, fun e h => h, (Hd.begin A2.out).more (by omega)⟩

set_option maxHeartbeats 1600000 in
set_option maxRecDepth 1000000 in
theorem tells_none {B D : Bg} {so : Bool} {ko a b y : Int} {d : List UInt8} {ao : Option Addr} {c : Nat} {P : List (Value × List UInt8)} {cs : List Comp} {w0 w : World} {S M : Nat} (h : Hd w S M (poolC P :: (B.L ++ (D.M ++ cs)))) (hb : B.In P) (hd : D.In P) (he : D.ab = B.ab) {k : Nat} (ho : B.ab.Ok k) (hk : k < 4611686018427387904) (hs : B.ab.Sm) (hM : M + 4096 ≤ 1099511627776) (k0 : ko ≠ 5) (k1 : ko ≠ 6) (k2 : ko ≠ 7) (k3 : ko ≠ 9) :
    Calls Try.prog 13 #[B.V, D.V, .pointer (some ⟨S, 0, none⟩), .agg #[.bool so, .int .i64 ko, .int .i64 a, .int .i64 b, .int .i64 y, .slice ao d.length c]] w fun e w' => e = .returned (.bool true) ∧ Dk B D B.ab P cs S (M + 4096) w' := by
  have H := hid h
  have Q := hid (And.intro hb (And.intro hd he))
  clear h hb hd he
  go_enter Try.func13, Try.ntmps13
  go_wp2
  go_ret
  exact ⟨rfl, P, B, D, rfl, rfl, rfl, Q.out.2.2, Q.out.1, Q.out.2.1, fun e h => h, (H.out.later (ba w _)).more (by omega)⟩

/-- tells. -/
theorem tells_any {B D : Bg} {o : Op1} {ao : Option Addr} {c : Nat} {P : List (Value × List UInt8)} {cs : List Comp} {w0 w : World} {S M : Nat} (h : Hd w S M (poolC P :: (B.L ++ (D.M ++ cs)))) (hb : B.In P) (hd : D.In P) (he : D.ab = B.ab) {k : Nat} (ho : B.ab.Ok k) (hk : k < 4611686018427387904) (hs : B.ab.Sm) (hM : M + 4096 ≤ 1099511627776) :
    Calls Try.prog 13 #[B.V, D.V, .pointer (some ⟨S, 0, none⟩), .agg #[.bool o.s, .int .i64 o.k, .int .i64 o.a, .int .i64 o.b, .int .i64 o.y, .slice ao o.d.length c]] w fun e w' => e = .returned (.bool true) ∧ Dk B D B.ab P cs S (M + 4096) w' := by
  by_cases k5 : o.k = 5
  · exact tells_len (w0 := w0) h hb hd he ho hk hs hM k5
  · by_cases k6 : o.k = 6
    · exact tells_list (w0 := w0) h hb hd he ho hk hs hM k6
    · by_cases k7 : o.k = 7
      · exact tells_at (w0 := w0) h hb hd he ho hk hs hM k7
      · by_cases k9 : o.k = 9
        · exact tells_spoil (w0 := w0) h hb hd he ho hk hs hM k9
        · exact tells_none (w0 := w0) h hb hd he ho hk hs hM k5 k6 k7 k9
end Go.Proofs.Ytpfpamkbahgkpaa

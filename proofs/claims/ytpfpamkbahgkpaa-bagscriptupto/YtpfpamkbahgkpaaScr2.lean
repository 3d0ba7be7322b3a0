import Derived.Test.YtpfpamkbahgkpaaScr1
import Derived.Test.YtpfpamkbahgkpaaLaw3
import Derived.Test.YtpfpamkbahgkpaaRf8
namespace Go.Proofs.Ytpfpamkbahgkpaa
open Go.RowKit
set_option linter.unusedVariables false

/-- No packet's bytes are too many. -/
def AB.Sm (A : AB) : Prop := ∀ p ∈ A.ps, p.bs.length ≤ 1099511627776
theorem AB.Sm.at {A : AB} (h : A.Sm) (k : Int) : (A.at k).bs.length ≤ 1099511627776 := by
  by_cases hh : hasB k A.ps.length = true
  · exact h _ (List.mem_of_getElem? (AB.at_mem hh).1)
  · unfold AB.at
    rw [if_neg hh]
    simp [AP.zero]
theorem AB.Sm.lay {A : AB} (h : A.Sm) (p : AP) (hp : p.bs.length ≤ 1099511627776) : (A.lay p).Sm := fun q hq => by
  simp only [AB.lay, List.mem_append, List.mem_singleton] at hq
  rcases hq with hq | rfl
  · exact h q hq
  · exact hp
theorem AB.Sm.one {A : AB} (h : A.Sm) (o : Op1) (ho : o.d.length ≤ 1099511627776) : (A.one o).Sm := by
  unfold AB.one
  split
  · unfold AB.add
    split
    · exact h.lay _ ho
    · exact h
  · split
    · unfold AB.take
      split
      · exact fun q hq => h q (List.mem_of_mem_eraseIdx hq)
      · exact h
    · split
      · unfold AB.dup
        split
        · exact h.lay _ (h.at _)
        · exact h
      · split
        · unfold AB.flip
          split
          · intro q hq
            rcases List.mem_or_eq_of_mem_set hq with hq | rfl
            · exact h q hq
            · simp only [AP.flip, List.length_set]; exact h.at _
          · exact h
        · split
          · intro q hq
            obtain ⟨p, hp, rfl⟩ := List.mem_map.1 hq
            exact h p hp
          · exact h

/-- A pair of bags, with what is laid by. -/
def Dk (B D : Bg) (A : AB) (P : List (Value × List UInt8)) (cs : List Comp) (S M : Nat) (w : World) : Prop :=
  ∃ (P' : List (Value × List UInt8)) (B' D' : Bg), B'.b = B.b ∧ D'.b = D.b ∧ B'.ab = A ∧ D'.ab = A ∧ B'.In P' ∧ D'.In P' ∧ (∀ e ∈ P, e ∈ P') ∧ Hd w S M (poolC P' :: (B'.L ++ (D'.M ++ cs)))
theorem Hd.more {w : World} {S M N : Nat} {cs : List Comp} (h : Hd w S M cs) (hN : M ≤ N) : Hd w S N cs := by
  obtain ⟨ov, wv, es, A, hM⟩ := h.ex
  exact ⟨ov, wv, es, A, Nat.le_trans hM hN⟩
theorem Dk.of {B D : Bg} {A : AB} {P : List (Value × List UInt8)} {cs X : List Comp} {S M : Nat} {w : World} (h : Pr B D A P (cs ++ X) w) (hX : ∀ w' ds, All (ds ++ X) w' → Hd w' S M ds) {N : Nat} (hN : M ≤ N) : Dk B D A P cs S N w := by
  obtain ⟨P2, B2, D2, h1, h2, h3, h4, h5, h6, h7, h8⟩ := h
  exact ⟨P2, B2, D2, h1, h2, h3, h4, h5, h6, h7, (hX w _ (by simpa using h8)).more hN⟩

set_option maxHeartbeats 1600000 in
set_option maxRecDepth 1000000 in
theorem changes_add {B D : Bg} {so : Bool} {ko a b y : Int} {d : List UInt8} {ao : Option Addr} {c : Nat} {P : List (Value × List UInt8)} {cs : List Comp} {w0 w : World} {S M : Nat} (h : Hd w S M (poolC P :: (B.L ++ (D.M ++ cs)))) (hb : B.In P) (hd : D.In P) (he : D.ab = B.ab) {k : Nat} (ho : B.ab.Ok k) (hk : k < 4611686018427387904) (hs : B.ab.Sm) (hM : M + 4096 ≤ 1099511627776) (hc : inC w0 ∈ cs) (hr : Reads w0 (.slice ao d.length c) d) (hl : d.length ≤ 140737488351232) (hko : ko = 0) :
    Calls Try.prog 12 #[B.V, D.V, .pointer (some ⟨S, 0, none⟩), .agg #[.bool so, .int .i64 ko, .int .i64 a, .int .i64 b, .int .i64 y, .slice ao d.length c]] w fun e w' => e = .returned (.bool true) ∧ Dk B D (B.ab.add a b d) P cs S (M + 4096) w' := by
  obtain ⟨X, A, hX⟩ := h.split
  have HX := hid hX
  have HE := hid he
  have HB := hid hb
  have HD := hid hd
  have hn : B.ps.length ≤ 1024 := by rw [← B.ab_len]; exact ho.small
  have hnD : D.ps.length ≤ 1024 := by rw [← D.ab_len, he]; exact ho.small
  have hoD : D.ab.Ok k := by rw [he]; exact ho
  have A0 : All (poolC P :: (B.L ++ (D.M ++ (blkC w.heap.size [.bool so, .int .i64 ko, .int .i64 a, .int .i64 b, .int .i64 y, .slice ao d.length c] 33 :: (cs ++ X))))) (w.alloc (.cells #[.bool so, .int .i64 ko, .int .i64 a, .int .i64 b, .int .i64 y, .slice ao d.length c] 33)) := (A.addBlk [.bool so, .int .i64 ko, .int .i64 a, .int .i64 b, .int .i64 y, .slice ao d.length c] 33).perm (by
    have := List.perm_append_comm_assoc [blkC w.heap.size [.bool so, .int .i64 ko, .int .i64 a, .int .i64 b, .int .i64 y, .slice ao d.length c] 33] (poolC P :: (B.L ++ D.M)) (cs ++ X)
    simpa using this)
  clear A h hX he hb hd
  subst hko
  have C1 := hid (adds_any (so := so) (ko := 0) (a := a) (b := b) (y := y) (d := d) (ao := ao) (c := c) (w0 := w0) A0 (by simp [hc]) HB.out HD.out HE.out ho hk hr hl)
  clear A0
  go_enter Try.func12, Try.ntmps12
  go_wp2_with fail
  refine C1.out.mono ?_
  rintro e w1 ⟨rfl, T⟩
  have T := hid T
  clear C1
  go_wp2
  go_ret
  exact ⟨rfl, Dk.of T.out.drop HX.out (by omega)⟩

set_option maxHeartbeats 1600000 in
set_option maxRecDepth 1000000 in
theorem changes_dup {B D : Bg} {so : Bool} {ko a b y : Int} {d : List UInt8} {ao : Option Addr} {c : Nat} {P : List (Value × List UInt8)} {cs : List Comp} {w0 w : World} {S M : Nat} (h : Hd w S M (poolC P :: (B.L ++ (D.M ++ cs)))) (hb : B.In P) (hd : D.In P) (he : D.ab = B.ab) {k : Nat} (ho : B.ab.Ok k) (hk : k < 4611686018427387904) (hs : B.ab.Sm) (hM : M + 4096 ≤ 1099511627776) (hko : ko = 2) :
    Calls Try.prog 12 #[B.V, D.V, .pointer (some ⟨S, 0, none⟩), .agg #[.bool so, .int .i64 ko, .int .i64 a, .int .i64 b, .int .i64 y, .slice ao d.length c]] w fun e w' => e = .returned (.bool true) ∧ Dk B D (B.ab.dup a) P cs S (M + 4096) w' := by
  obtain ⟨X, A, hX⟩ := h.split
  have HX := hid hX
  have HE := hid he
  have HB := hid hb
  have HD := hid hd
  have hn : B.ps.length ≤ 1024 := by rw [← B.ab_len]; exact ho.small
  have hnD : D.ps.length ≤ 1024 := by rw [← D.ab_len, he]; exact ho.small
  have hoD : D.ab.Ok k := by rw [he]; exact ho
  have A0 : All (poolC P :: (B.L ++ (D.M ++ (blkC w.heap.size [.bool so, .int .i64 ko, .int .i64 a, .int .i64 b, .int .i64 y, .slice ao d.length c] 33 :: (cs ++ X))))) (w.alloc (.cells #[.bool so, .int .i64 ko, .int .i64 a, .int .i64 b, .int .i64 y, .slice ao d.length c] 33)) := (A.addBlk [.bool so, .int .i64 ko, .int .i64 a, .int .i64 b, .int .i64 y, .slice ao d.length c] 33).perm (by
    have := List.perm_append_comm_assoc [blkC w.heap.size [.bool so, .int .i64 ko, .int .i64 a, .int .i64 b, .int .i64 y, .slice ao d.length c] 33] (poolC P :: (B.L ++ D.M)) (cs ++ X)
    simpa using this)
  clear A h hX he hb hd
  subst hko
  have C1 := hid (Dup_any (j := a) A0 HB.out ho hk)
  obtain ⟨E, hE⟩ : ∃ E, Hid (E = B.ab.dupE a) := ⟨_, hid rfl⟩
  rw [← hE.out] at C1
  clear A0
  go_enter Try.func12, Try.ntmps12
  go_wp2_with fail
  refine C1.out.mono ?_
  rintro e w1 ⟨rfl, T⟩
  obtain ⟨P1, B1, e1, e2, e3, e4, e5, A1⟩ := Bg.To.doc T HD.out
  generalize w.heap.size = K at *
  have hbk := (A1.mem (c := blkC K [.bool so, .int .i64 2, .int .i64 a, .int .i64 b, .int .i64 y, .slice ao d.length c] 33) (by simp)).2.1
  have t2 : w1.cell? ⟨K, 2, none⟩ = some (.int .i64 a) := by rw [cell_at hbk]; rfl
  have t3 : w1.cell? ⟨K, 3, none⟩ = some (.int .i64 b) := by rw [cell_at hbk]; rfl
  have t4 : w1.cell? ⟨K, 4, none⟩ = some (.int .i64 y) := by rw [cell_at hbk]; rfl
  have C2 := hid (rDup_any (j := a) A1 e4 hoD hk)
  rw [HE.out, ← hE.out] at C2
  have Q := hid (And.intro e1 (And.intro e2 (And.intro e3 e5)))
  clear C1 T A1 hbk e1 e2 e3 e4 e5
  go_wp2_with fail
  refine C2.out.mono ?_
  rintro e w2 ⟨rfl, T2⟩
  have T2 := hid T2
  clear C2 t2 t3 t4
  have bE : (E == E) = true := by simp
  go_wp2
  go_ret
  exact ⟨rfl, Dk.of (Pr.of T2.out Q.out.1 Q.out.2.1 Q.out.2.2.1 Q.out.2.2.2).drop HX.out (by omega)⟩

set_option maxHeartbeats 1600000 in
set_option maxRecDepth 1000000 in
theorem changes_flip {B D : Bg} {so : Bool} {ko a b y : Int} {d : List UInt8} {ao : Option Addr} {c : Nat} {P : List (Value × List UInt8)} {cs : List Comp} {w0 w : World} {S M : Nat} (h : Hd w S M (poolC P :: (B.L ++ (D.M ++ cs)))) (hb : B.In P) (hd : D.In P) (he : D.ab = B.ab) {k : Nat} (ho : B.ab.Ok k) (hk : k < 4611686018427387904) (hs : B.ab.Sm) (hM : M + 4096 ≤ 1099511627776) (hko : ko = 3) :
    Calls Try.prog 12 #[B.V, D.V, .pointer (some ⟨S, 0, none⟩), .agg #[.bool so, .int .i64 ko, .int .i64 a, .int .i64 b, .int .i64 y, .slice ao d.length c]] w fun e w' => e = .returned (.bool true) ∧ Dk B D (B.ab.flip a b y) P cs S (M + 4096) w' := by
  obtain ⟨X, A, hX⟩ := h.split
  have HX := hid hX
  have HE := hid he
  have HB := hid hb
  have HD := hid hd
  have hn : B.ps.length ≤ 1024 := by rw [← B.ab_len]; exact ho.small
  have hnD : D.ps.length ≤ 1024 := by rw [← D.ab_len, he]; exact ho.small
  have hoD : D.ab.Ok k := by rw [he]; exact ho
  have A0 : All (poolC P :: (B.L ++ (D.M ++ (blkC w.heap.size [.bool so, .int .i64 ko, .int .i64 a, .int .i64 b, .int .i64 y, .slice ao d.length c] 33 :: (cs ++ X))))) (w.alloc (.cells #[.bool so, .int .i64 ko, .int .i64 a, .int .i64 b, .int .i64 y, .slice ao d.length c] 33)) := (A.addBlk [.bool so, .int .i64 ko, .int .i64 a, .int .i64 b, .int .i64 y, .slice ao d.length c] 33).perm (by
    have := List.perm_append_comm_assoc [blkC w.heap.size [.bool so, .int .i64 ko, .int .i64 a, .int .i64 b, .int .i64 y, .slice ao d.length c] 33] (poolC P :: (B.L ++ D.M)) (cs ++ X)
    simpa using this)
  clear A h hX he hb hd
  subst hko
  have C1 := hid (Flip_any (j := a) (x := b) (y := y) A0 HB.out ho)
  obtain ⟨E, hE⟩ : ∃ E, Hid (E = B.ab.flipE a b y) := ⟨_, hid rfl⟩
  rw [← hE.out] at C1
  clear A0
  go_enter Try.func12, Try.ntmps12
  go_wp2_with fail
  refine C1.out.mono ?_
  rintro e w1 ⟨rfl, T⟩
  obtain ⟨P1, B1, e1, e2, e3, e4, e5, A1⟩ := Bg.To.doc T HD.out
  generalize w.heap.size = K at *
  have hbk := (A1.mem (c := blkC K [.bool so, .int .i64 3, .int .i64 a, .int .i64 b, .int .i64 y, .slice ao d.length c] 33) (by simp)).2.1
  have t2 : w1.cell? ⟨K, 2, none⟩ = some (.int .i64 a) := by rw [cell_at hbk]; rfl
  have t3 : w1.cell? ⟨K, 3, none⟩ = some (.int .i64 b) := by rw [cell_at hbk]; rfl
  have t4 : w1.cell? ⟨K, 4, none⟩ = some (.int .i64 y) := by rw [cell_at hbk]; rfl
  have C2 := hid (rFlip_any (j := a) (x := b) (y := y) A1 e4 hoD)
  rw [HE.out, ← hE.out] at C2
  have Q := hid (And.intro e1 (And.intro e2 (And.intro e3 e5)))
  clear C1 T A1 hbk e1 e2 e3 e4 e5
  go_wp2_with fail
  refine C2.out.mono ?_
  rintro e w2 ⟨rfl, T2⟩
  have T2 := hid T2
  clear C2 t2 t3 t4
  have bE : (E == E) = true := by simp
  go_wp2
  go_ret
  exact ⟨rfl, Dk.of (Pr.of T2.out Q.out.1 Q.out.2.1 Q.out.2.2.1 Q.out.2.2.2).drop HX.out (by omega)⟩

set_option maxHeartbeats 1600000 in
set_option maxRecDepth 1000000 in
theorem changes_older {B D : Bg} {so : Bool} {ko a b y : Int} {d : List UInt8} {ao : Option Addr} {c : Nat} {P : List (Value × List UInt8)} {cs : List Comp} {w0 w : World} {S M : Nat} (h : Hd w S M (poolC P :: (B.L ++ (D.M ++ cs)))) (hb : B.In P) (hd : D.In P) (he : D.ab = B.ab) {k : Nat} (ho : B.ab.Ok k) (hk : k < 4611686018427387904) (hs : B.ab.Sm) (hM : M + 4096 ≤ 1099511627776) (hko : ko = 4) :
    Calls Try.prog 12 #[B.V, D.V, .pointer (some ⟨S, 0, none⟩), .agg #[.bool so, .int .i64 ko, .int .i64 a, .int .i64 b, .int .i64 y, .slice ao d.length c]] w fun e w' => e = .returned (.bool true) ∧ Dk B D B.ab.older P cs S (M + 4096) w' := by
  obtain ⟨X, A, hX⟩ := h.split
  have HX := hid hX
  have HE := hid he
  have HB := hid hb
  have HD := hid hd
  have hn : B.ps.length ≤ 1024 := by rw [← B.ab_len]; exact ho.small
  have hnD : D.ps.length ≤ 1024 := by rw [← D.ab_len, he]; exact ho.small
  have hoD : D.ab.Ok k := by rw [he]; exact ho
  have A0 : All (poolC P :: (B.L ++ (D.M ++ (blkC w.heap.size [.bool so, .int .i64 ko, .int .i64 a, .int .i64 b, .int .i64 y, .slice ao d.length c] 33 :: (cs ++ X))))) (w.alloc (.cells #[.bool so, .int .i64 ko, .int .i64 a, .int .i64 b, .int .i64 y, .slice ao d.length c] 33)) := (A.addBlk [.bool so, .int .i64 ko, .int .i64 a, .int .i64 b, .int .i64 y, .slice ao d.length c] 33).perm (by
    have := List.perm_append_comm_assoc [blkC w.heap.size [.bool so, .int .i64 ko, .int .i64 a, .int .i64 b, .int .i64 y, .slice ao d.length c] 33] (poolC P :: (B.L ++ D.M)) (cs ++ X)
    simpa using this)
  clear A h hX he hb hd
  subst hko
  have C1 := hid (Older_any A0 HB.out ho hk)
  clear A0
  go_enter Try.func12, Try.ntmps12
  go_wp2_with fail
  refine C1.out.mono ?_
  rintro e w1 ⟨rfl, T⟩
  obtain ⟨P1, B1, e1, e2, e3, e4, e5, A1⟩ := Bg.To.doc T HD.out
  generalize w.heap.size = K at *
  have hbk := (A1.mem (c := blkC K [.bool so, .int .i64 4, .int .i64 a, .int .i64 b, .int .i64 y, .slice ao d.length c] 33) (by simp)).2.1
  have t2 : w1.cell? ⟨K, 2, none⟩ = some (.int .i64 a) := by rw [cell_at hbk]; rfl
  have t3 : w1.cell? ⟨K, 3, none⟩ = some (.int .i64 b) := by rw [cell_at hbk]; rfl
  have t4 : w1.cell? ⟨K, 4, none⟩ = some (.int .i64 y) := by rw [cell_at hbk]; rfl
  have C2 := hid (rOlder_any A1 e4 hoD hk)
  rw [HE.out] at C2
  have Q := hid (And.intro e1 (And.intro e2 (And.intro e3 e5)))
  clear C1 T A1 hbk e1 e2 e3 e4 e5
  go_wp2_with fail
  refine C2.out.mono ?_
  rintro e w2 ⟨rfl, T2⟩
  have T2 := hid T2
  clear C2 t2 t3 t4
  go_wp2
  go_ret
  exact ⟨rfl, Dk.of (Pr.of T2.out Q.out.1 Q.out.2.1 Q.out.2.2.1 Q.out.2.2.2).drop HX.out (by omega)⟩

set_option maxHeartbeats 1600000 in
set_option maxRecDepth 1000000 in
theorem changes_none {B D : Bg} {so : Bool} {ko a b y : Int} {d : List UInt8} {ao : Option Addr} {c : Nat} {P : List (Value × List UInt8)} {cs : List Comp} {w0 w : World} {S M : Nat} (h : Hd w S M (poolC P :: (B.L ++ (D.M ++ cs)))) (hb : B.In P) (hd : D.In P) (he : D.ab = B.ab) {k : Nat} (ho : B.ab.Ok k) (hk : k < 4611686018427387904) (hs : B.ab.Sm) (hM : M + 4096 ≤ 1099511627776) (k0 : ko ≠ 0) (k1 : ko ≠ 1) (k2 : ko ≠ 2) (k3 : ko ≠ 3) (k4 : ko ≠ 4) :
    Calls Try.prog 12 #[B.V, D.V, .pointer (some ⟨S, 0, none⟩), .agg #[.bool so, .int .i64 ko, .int .i64 a, .int .i64 b, .int .i64 y, .slice ao d.length c]] w fun e w' => e = .returned (.bool true) ∧ Dk B D B.ab P cs S (M + 4096) w' := by
  have H := hid h
  have Q := hid (And.intro hb (And.intro hd he))
  clear h hb hd he
  go_enter Try.func12, Try.ntmps12
  go_wp2
  go_ret
  exact ⟨rfl, P, B, D, rfl, rfl, rfl, Q.out.2.2, Q.out.1, Q.out.2.1, fun e h => h, (H.out.later (ba w _)).more (by omega)⟩

set_option maxHeartbeats 3200000 in
set_option maxRecDepth 1000000 in
theorem changes_take {B D : Bg} {so : Bool} {ko a b y : Int} {d : List UInt8} {ao : Option Addr} {c : Nat} {P : List (Value × List UInt8)} {cs : List Comp} {w0 w : World} {S M : Nat} (h : Hd w S M (poolC P :: (B.L ++ (D.M ++ cs)))) (hb : B.In P) (hd : D.In P) (he : D.ab = B.ab) {k : Nat} (ho : B.ab.Ok k) (hk : k < 4611686018427387904) (hs : B.ab.Sm) (hM : M + 4096 ≤ 1099511627776) (hko : ko = 1) :
    Calls Try.prog 12 #[B.V, D.V, .pointer (some ⟨S, 0, none⟩), .agg #[.bool so, .int .i64 ko, .int .i64 a, .int .i64 b, .int .i64 y, .slice ao d.length c]] w fun e w' => e = .returned (.bool true) ∧ Dk B D (B.ab.take a) P cs S (M + 4096) w' := by
  obtain ⟨X, A, hX⟩ := h.split
  have HX := hid hX
  have HE := hid he
  have HB := hid hb
  have HD := hid hd
  have hn : B.ps.length ≤ 1024 := by rw [← B.ab_len]; exact ho.small
  have hnD : D.ps.length ≤ 1024 := by rw [← D.ab_len, he]; exact ho.small
  have hoD : D.ab.Ok k := by rw [he]; exact ho
  have A0 : All (poolC P :: (B.L ++ (D.M ++ (blkC w.heap.size [.bool so, .int .i64 ko, .int .i64 a, .int .i64 b, .int .i64 y, .slice ao d.length c] 33 :: (cs ++ X))))) (w.alloc (.cells #[.bool so, .int .i64 ko, .int .i64 a, .int .i64 b, .int .i64 y, .slice ao d.length c] 33)) := (A.addBlk [.bool so, .int .i64 ko, .int .i64 a, .int .i64 b, .int .i64 y, .slice ao d.length c] 33).perm (by
    have := List.perm_append_comm_assoc [blkC w.heap.size [.bool so, .int .i64 ko, .int .i64 a, .int .i64 b, .int .i64 y, .slice ao d.length c] 33] (poolC P :: (B.L ++ D.M)) (cs ++ X)
    simpa using this)
  clear A h hX he hb hd
  subst hko
  have hsm := hid (hs.at a)
  have C1 := hid (Take_any (j := a) A0 HB.out hn)
  obtain ⟨E, hE⟩ : ∃ E, Hid (E = B.ab.takeE a) := ⟨_, hid rfl⟩
  rw [← hE.out] at C1
  clear A0
  go_enter Try.func12, Try.ntmps12
  go_wp2_with fail
  refine C1.out.mono ?_
  rintro e w1 ⟨p, B1, rfl, hap, e1, e2, e3, A1⟩
  generalize w.heap.size = K at *
  have A2 := A1.addBlk p.cells 49
  have eW : w1.alloc (.cells #[.int .i64 p.n, .int .i64 p.f, .int .i64 p.t, .int .i64 p.a, .int .i64 p.u, .slice p.ao p.bs.length p.c] 49) = w1.alloc (.cells p.cells.toArray 49) := rfl
  have hbk := (A2.mem (c := blkC K [.bool so, .int .i64 1, .int .i64 a, .int .i64 b, .int .i64 y, .slice ao d.length c] 33) (by simp)).2.1
  have t2 : (w1.alloc (.cells p.cells.toArray 49)).cell? ⟨K, 2, none⟩ = some (.int .i64 a) := by rw [cell_at hbk]; rfl
  have A3 : All (poolC P :: (D.M ++ (B1.L ++ (blkC w1.heap.size p.cells 49 :: byC p.D p.bs :: blkC K [.bool so, .int .i64 1, .int .i64 a, .int .i64 b, .int .i64 y, .slice ao d.length c] 33 :: (cs ++ X))))) (w1.alloc (.cells p.cells.toArray 49)) := A2.perm (by
    have := perm_by 6 [[blkC w1.heap.size p.cells 49, byC p.D p.bs], [poolC P], B1.L, D.M, [blkC K [.bool so, .int .i64 1, .int .i64 a, .int .i64 b, .int .i64 y, .slice ao d.length c] 33], cs ++ X] [1, 3, 2, 0, 4, 5] rfl (by decide)
    simpa [List.getD] using this)
  have C2 := hid (rTake_any (j := a) A3 HD.out hnD)
  rw [HE.out, ← hE.out] at C2
  have bE : (E != E) = false := by simp

  have HP := hid (And.intro hap (And.intro e1 (And.intro e2 e3)))
  clear C1 A1 A2 A3 hbk hap e1 e2 e3
  go_wp2_with fail
  refine C2.out.mono ?_
  rintro e w2 ⟨q, D1, rfl, hq, g1, g2, g3, A4⟩
  clear C2 t2
  have HQ := hid (And.intro hq (And.intro g1 (And.intro g2 g3)))
  clear hq g1 g2 g3
  generalize w1.heap.size = K1 at *
  have A5 := A4.addBlk q.cells 49
  clear eW
  have eW : w2.alloc (.cells #[.int .i64 q.n, .int .i64 q.f, .int .i64 q.t, .int .i64 q.a, .int .i64 q.u, .slice q.ao q.bs.length q.c] 49) = w2.alloc (.cells q.cells.toArray 49) := rfl
  obtain ⟨⟨s1, s2, s3, s4, s5, s6⟩, -⟩ := pkAt_blk A5
  have A6 : All (blkC K1 p.cells 49 :: byC p.D p.bs :: byC q.D q.bs :: blkC w2.heap.size q.cells 49 :: blkC K [.bool so, .int .i64 1, .int .i64 a, .int .i64 b, .int .i64 y, .slice ao d.length c] 33 :: (poolC P :: (B1.L ++ (D1.M ++ cs)) ++ X)) (w2.alloc (.cells q.cells.toArray 49)) := A5.perm (by
    have := perm_by 9 [[blkC w2.heap.size q.cells 49], [byC q.D q.bs], [poolC P], D1.M, B1.L, [blkC K1 p.cells 49], [byC p.D p.bs], [blkC K [.bool so, .int .i64 1, .int .i64 a, .int .i64 b, .int .i64 y, .slice ao d.length c] 33], cs ++ X] [5, 6, 1, 0, 7, 2, 4, 3, 8] rfl (by decide)
    simpa [List.getD] using this)
  obtain ⟨⟨z1, z2, z3, z4, z5, z6⟩, -⟩ := pkAt_blk A6
  simp only [Nat.zero_add] at s1 s2 s3 s4 s5 s6 z1 z2 z3 z4 z5 z6
  have hap : p.ap = q.ap := by rw [HP.out.1, HQ.out.1]
  have hpl : p.bs.length ≤ 1099511627776 := by have e9 : p.bs = (B.ab.at a).bs := congrArg AP.bs HP.out.1; rw [e9]; exact hsm.out
  have C3 := hid (samePacket_true hap (A6.byReads (v := p.D) (l := p.bs) (by simp)) (A6.byReads (v := q.D) (l := q.bs) (by simp)) (by omega))
  have A6 := hid A6
  clear A4 A5 hap
  go_wp2_with fail
  refine C3.out.mono ?_
  rintro e w3 ⟨rfl, hb3⟩
  have A7 := A6.out.later hb3
  clear s1 s2 s3 s4 s5 s6 z1 z2 z3 z4 z5 z6 eW A6 C3 hb3
  obtain ⟨⟨z1, z2, z3, z4, z5, z6⟩, -⟩ := pkAt_blk A7
  simp only [Nat.zero_add] at z1 z2 z3 z4 z5 z6
  have A8 : All ((byC p.D p.bs :: poolC P :: (B1.L ++ (D1.M ++ cs))) ++ X) w3 := by
    have A9 := A7.tail
    have A10 : All ([byC p.D p.bs] ++ byC q.D q.bs :: (blkC w2.heap.size q.cells 49 :: blkC K [.bool so, .int .i64 1, .int .i64 a, .int .i64 b, .int .i64 y, .slice ao d.length c] 33 :: (poolC P :: (B1.L ++ (D1.M ++ cs)) ++ X))) w3 := A9
    have A11 : All ([byC p.D p.bs] ++ blkC w2.heap.size q.cells 49 :: (blkC K [.bool so, .int .i64 1, .int .i64 a, .int .i64 b, .int .i64 y, .slice ao d.length c] 33 :: (poolC P :: (B1.L ++ (D1.M ++ cs)) ++ X))) w3 := A10.mid
    have A12 : All ([byC p.D p.bs] ++ blkC K [.bool so, .int .i64 1, .int .i64 a, .int .i64 b, .int .i64 y, .slice ao d.length c] 33 :: (poolC P :: (B1.L ++ (D1.M ++ cs)) ++ X)) w3 := A11.mid
    exact A12.mid
  have C4 := hid (show Calls Try.prog 35 #[.pointer (some ⟨S, 0, none⟩), .slice p.ao p.bs.length p.c] w3 _ from (HX.out _ _ A8).keep hpl (by omega))
  clear A7 A8
  go_wp2_with fail
  refine C4.out.mono ?_
  rintro e w4 ⟨rfl, H4⟩
  have H4 := hid H4
  clear C4 z1 z2 z3 z4 z5 z6
  go_wp2
  go_ret
  exact ⟨rfl, P, B1, D1, HP.out.2.1, HQ.out.2.1, HP.out.2.2.1, HQ.out.2.2.1, HP.out.2.2.2, HQ.out.2.2.2, fun e h => h, H4.out.more (by omega)⟩

/-- changes. -/
theorem changes_any {B D : Bg} {o : Op1} {ao : Option Addr} {c : Nat} {P : List (Value × List UInt8)} {cs : List Comp} {w0 w : World} {S M : Nat} (h : Hd w S M (poolC P :: (B.L ++ (D.M ++ cs)))) (hb : B.In P) (hd : D.In P) (he : D.ab = B.ab) {k : Nat} (ho : B.ab.Ok k) (hk : k < 4611686018427387904) (hs : B.ab.Sm) (hM : M + 4096 ≤ 1099511627776) (hc : inC w0 ∈ cs) (hr : Reads w0 (.slice ao o.d.length c) o.d) (hl : o.d.length ≤ 140737488351232) :
    Calls Try.prog 12 #[B.V, D.V, .pointer (some ⟨S, 0, none⟩), .agg #[.bool o.s, .int .i64 o.k, .int .i64 o.a, .int .i64 o.b, .int .i64 o.y, .slice ao o.d.length c]] w fun e w' => e = .returned (.bool true) ∧ Dk B D (B.ab.one o) P cs S (M + 4096) w' := by
  unfold AB.one
  split
  · rename_i hko; exact changes_add h hb hd he ho hk hs hM hc hr hl hko
  · split
    · rename_i hko; exact changes_take (w0 := w0) h hb hd he ho hk hs hM hko
    · split
      · rename_i hko; exact changes_dup (w0 := w0) h hb hd he ho hk hs hM hko
      · split
        · rename_i hko; exact changes_flip (w0 := w0) h hb hd he ho hk hs hM hko
        · split
          · rename_i hko; exact changes_older (w0 := w0) h hb hd he ho hk hs hM hko
          · exact changes_none (w0 := w0) h hb hd he ho hk hs hM (by assumption) (by assumption) (by assumption) (by assumption) (by assumption)
end Go.Proofs.Ytpfpamkbahgkpaa

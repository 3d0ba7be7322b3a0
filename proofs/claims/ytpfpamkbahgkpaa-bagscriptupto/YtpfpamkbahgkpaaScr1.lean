import Derived.Test.YtpfpamkbahgkpaaKpP
import Derived.Test.YtpfpamkbahgkpaaLent
import Derived.Test.YtpfpamkbahgkpaaRf8
namespace Go.Proofs.Ytpfpamkbahgkpaa
open Go.RowKit
set_option linter.unusedVariables false

/-- A bag of the program's and the document's beside it, both at a state of the model. -/
def Pr (B D : Bg) (A : AB) (P : List (Value × List UInt8)) (cs : List Comp) (w : World) : Prop :=
  ∃ (P' : List (Value × List UInt8)) (B' D' : Bg), B'.b = B.b ∧ D'.b = D.b ∧ B'.ab = A ∧ D'.ab = A ∧ B'.In P' ∧ D'.In P' ∧ (∀ e ∈ P, e ∈ P') ∧ All (poolC P' :: (B'.L ++ (D'.M ++ cs))) w
theorem perm_swap3 (a : Comp) (X Y Z : List Comp) : (a :: (X ++ (Y ++ Z))).Perm (a :: (Y ++ (X ++ Z))) := List.Perm.cons _ (List.perm_append_comm_assoc _ _ _)
theorem Bg.To.doc {B D : Bg} {A : AB} {P : List (Value × List UInt8)} {cs : List Comp} {w : World} (h : B.To A P (D.M ++ cs) w) (hd : D.In P) :
    ∃ (P1 : List (Value × List UInt8)) (B1 : Bg), B1.b = B.b ∧ B1.ab = A ∧ B1.In P1 ∧ D.In P1 ∧ (∀ e ∈ P, e ∈ P1) ∧ All (poolC P1 :: (D.M ++ (B1.L ++ cs))) w := by
  obtain ⟨P1, B1, h1, h2, h3, h4, h5⟩ := h
  exact ⟨P1, B1, h1, h2, h3, hd.more h4, h4, h5.perm (perm_swap3 _ _ _ _)⟩
theorem Pr.of {B D B1 : Bg} {A : AB} {P P1 : List (Value × List UInt8)} {cs : List Comp} {w : World} (h : D.Tm A P1 (B1.L ++ cs) w) (h1 : B1.b = B.b) (h2 : B1.ab = A) (h3 : B1.In P1) (h4 : ∀ e ∈ P, e ∈ P1) : Pr B D A P cs w := by
  obtain ⟨P2, D2, g1, g2, g3, g4, g5⟩ := h
  exact ⟨P2, B1, D2, h1, g1, h2, g2, h3.more g4, g3, fun e he => g4 e (h4 e he), g5.perm (perm_swap3 _ _ _ _)⟩
theorem Pr.alloc {B D : Bg} {A : AB} {P : List (Value × List UInt8)} {cs : List Comp} {w : World} (h : Pr B D A P cs w) (o : Obj) : Pr B D A P cs (w.alloc o) := by
  obtain ⟨P2, B2, D2, h1, h2, h3, h4, h5, h6, h7, h8⟩ := h
  exact ⟨P2, B2, D2, h1, h2, h3, h4, h5, h6, h7, h8.alloc o⟩
theorem Pr.drop {B D : Bg} {A : AB} {P : List (Value × List UInt8)} {c : Comp} {cs : List Comp} {w : World} (h : Pr B D A P (c :: cs) w) : Pr B D A P cs w := by
  obtain ⟨P2, B2, D2, h1, h2, h3, h4, h5, h6, h7, h8⟩ := h
  refine ⟨P2, B2, D2, h1, h2, h3, h4, h5, h6, h7, ?_⟩
  have h9 : All ((poolC P2 :: (B2.L ++ D2.M)) ++ c :: cs) w := by simpa using h8
  have := h9.mid
  simpa using this
/-- Bytes of one's own that are not empty: where they lie. -/
theorem by_at {v : Value} {l : List UInt8} {cs : List Comp} {w : World} (h : All (byC v l :: cs) w) (hl : 0 < l.length) : ∃ H c, v = .slice (some ⟨H, 0, none⟩) l.length c ∧ l.length ≤ c := by
  have ho : w.ownsRow 0 5 1 v (cellsB l).length (cellsB l) := h.1.2.1
  rw [cellsB_length] at ho
  rcases ho.2 with ⟨-, e⟩ | ⟨g, cap, cur, rfl, hg, hgg, hn, hm, hs, hcur⟩
  · omega
  · exact ⟨g, cap, rfl, hn⟩
theorem by_cell {H n c : Nat} {l : List UInt8} {cs : List Comp} {w : World} (h : All (byC (.slice (some ⟨H, 0, none⟩) n c) l :: cs) w) {j : Nat} (hj : j < l.length) : ∃ x, w.cell? ⟨H, j, none⟩ = some (.int .u8 x) ∧ w.frozen? ⟨H, j, none⟩ = false := by
  have ho : w.ownsRow 0 5 1 (.slice (some ⟨H, 0, none⟩) n c) (cellsB l).length (cellsB l) := h.1.2.1
  obtain ⟨g, e, h1, h2⟩ := owns_at ho (k := j) (u := .int .u8 ((l[j]).toNat : Int)) (by simp [cellsB, hj])
  simp only [Option.some.injEq, Addr.mk.injEq, and_true] at e
  subst e
  exact ⟨_, h1, h2⟩
theorem Reads.front {w : World} {H n c : Nat} {l m : List UInt8} (h : Reads w (.slice (some ⟨H, 0, none⟩) n c) (l ++ m)) (hm : 0 < m.length) : Reads w (.slice (some ⟨H, 0, none⟩) l.length c) l := by
  obtain ⟨ao, c', e, hc, hcase⟩ := h
  simp only [Value.slice.injEq] at e
  obtain ⟨rfl, -, rfl⟩ := e
  refine ⟨_, c, rfl, by rw [List.length_append] at hc; omega, ?_⟩
  rcases hcase with ⟨h1, h2⟩ | ⟨g, o, h1, h2, h3⟩
  · have := congrArg List.length h1
    rw [List.length_append, List.length_nil] at this
    omega
  · refine Or.inr ⟨g, o, h1, h2, fun j u hu => h3 j u ?_⟩
    rw [cellsB_append, List.getElem?_append_left (List.getElem?_eq_some_iff.1 hu).1]
    exact hu

set_option maxHeartbeats 3200000 in
set_option maxRecDepth 1000000 in
/-- adds. -/
theorem adds_any {B D : Bg} {so : Bool} {ko a b y : Int} {d : List UInt8} {ao : Option Addr} {c : Nat} {P : List (Value × List UInt8)} {cs : List Comp} {w0 w : World} (h : All (poolC P :: (B.L ++ (D.M ++ cs))) w) (hc : inC w0 ∈ cs) (hb : B.In P) (hd : D.In P) (he : D.ab = B.ab) {k : Nat} (ho : B.ab.Ok k) (hk : k < 4611686018427387904) (hr : Reads w0 (.slice ao d.length c) d) (hl : d.length ≤ 140737488351232) :
    Calls Try.prog 33 #[B.V, D.V, .agg #[.bool so, .int .i64 ko, .int .i64 a, .int .i64 b, .int .i64 y, .slice ao d.length c]] w fun e w' => e = .returned (.bool true) ∧ Pr B D (B.ab.add a b d) P cs w' := by
  have HRd : Hid (∀ X W, All (X ++ cs) W → Reads W (.slice ao d.length c) d) := hid (fun X W A => hr.below (A.into (List.mem_append_right _ hc)))
  obtain ⟨n, hn⟩ : ∃ n, Hid (n = d.length) := ⟨_, hid rfl⟩
  rw [← hn.out] at hl HRd ⊢
  have A1 := h.addBlk [.bool so, .int .i64 ko, .int .i64 a, .int .i64 b, .int .i64 y, .slice ao n c] 33
  have L := hid (lent_any (HRd.out (blkC w.heap.size [.bool so, .int .i64 ko, .int .i64 a, .int .i64 b, .int .i64 y, .slice ao n c] 33 :: poolC P :: (B.L ++ D.M)) _ (by simpa using A1)) (by rw [← hn.out]; exact hl))
  have C1 : Hid (Calls Try.prog 51 #[.slice ao n c] (w.alloc (.cells #[.bool so, .int .i64 ko, .int .i64 a, .int .i64 b, .int .i64 y, .slice ao n c] 33)) fun e w2 => ∃ H cap, e = .returned (.slice (some ⟨H, 0, none⟩) (n + 8) cap) ∧ n + 8 ≤ cap ∧ Hid (All (poolC P :: (B.L ++ (D.M ++ (byC (.slice (some ⟨H, 0, none⟩) (n + 8) cap) (behind d 8) :: blkC w.heap.size [.bool so, .int .i64 ko, .int .i64 a, .int .i64 b, .int .i64 y, .slice ao n c] 33 :: cs)))) w2)) := hid (by
    refine L.out.mono ?_
    rintro e w2 ⟨v, rfl, o, hb2⟩
    have A2 := A1.addByR hb2 o
    rw [byR_eq] at A2
    obtain ⟨H, cap, rfl, hcap⟩ := by_at A2 (by rw [behind_len]; omega)
    rw [behind_len, ← hn.out] at hcap
    rw [behind_len, ← hn.out] at A2
    refine ⟨H, cap, by rw [behind_len, ← hn.out], hcap, hid (A2.perm ?_)⟩
    have := List.perm_append_comm_assoc [byC (.slice (some ⟨H, 0, none⟩) (n + 8) cap) (behind d 8), blkC w.heap.size [.bool so, .int .i64 ko, .int .i64 a, .int .i64 b, .int .i64 y, .slice ao n c] 33] (poolC P :: (B.L ++ D.M)) cs
    simpa using this)
  clear L A1 h
  have HB := hid hb
  have HD := hid hd
  have HC := hid hc
  clear hb hd hc hr
  go_enter Try.func33, Try.ntmps33
  go_wp2_with fail
  refine C1.out.mono ?_
  rintro e w2 ⟨H, cap, rfl, hcap, A2⟩
  clear C1
  generalize w.heap.size = K at *
  have hin : Hid (∀ X W, All (X ++ (byC (.slice (some ⟨H, 0, none⟩) (n + 8) cap) (behind d 8) :: blkC K [.bool so, .int .i64 ko, .int .i64 a, .int .i64 b, .int .i64 y, .slice ao n c] 33 :: cs)) W → W.cell? ⟨K, 2, none⟩ = some (.int .i64 a) ∧ W.cell? ⟨K, 3, none⟩ = some (.int .i64 b) ∧ W.cell? ⟨K, 5, none⟩ = some (.slice ao n c) ∧ Reads W (.slice (some ⟨H, 0, none⟩) (n + 8) cap) (behind d 8) ∧ Reads W (.slice ao n c) d) := hid (fun X W A => by
    have hb := (A.mem (c := blkC K [.bool so, .int .i64 ko, .int .i64 a, .int .i64 b, .int .i64 y, .slice ao n c] 33) (by simp)).2.1
    exact ⟨by rw [cell_at hb]; rfl, by rw [cell_at hb]; rfl, by rw [cell_at hb]; rfl, A.byReads (by simp), HRd.out (X ++ [byC (.slice (some ⟨H, 0, none⟩) (n + 8) cap) (behind d 8), blkC K [.bool so, .int .i64 ko, .int .i64 a, .int .i64 b, .int .i64 y, .slice ao n c] 33]) W (by simpa using A)⟩)
  obtain ⟨t2, t3, t5, R8, R0⟩ := hin.out (poolC P :: (B.L ++ D.M)) w2 (by simpa using A2.out)
  have C2 := hid (Add_any (f := a) (t := b) (s := .slice (some ⟨H, 0, none⟩) n cap) (l := d) A2.out.drew HB.out ho hk (by have := (Reads.front R8 (by simp)).drew; rwa [← hn.out] at this) (by rw [← hn.out]; omega))
  have hcap' : (n : Int) ≤ (cap : Int) := by omega
  have hn0 : (0 : Int) ≤ (n : Int) := by omega
  clear R8 R0 A2
  obtain ⟨E, hE⟩ : ∃ E, Hid (E = B.ab.addE a b) := ⟨_, hid rfl⟩
  rw [← hE.out] at C2
  go_wp2
  go_region_law (go_simp; go_at_call 24; refine C2.out.mono ?_; rintro e w3 ⟨rfl, T⟩; have T := hid T)
  all_goals (
    clear C2 t2 t3 t5
    obtain ⟨P1, B1, e1, e2, e3, e4, e5, A3⟩ := Bg.To.doc T.out HD.out
    have Q := hid (And.intro e1 (And.intro e2 (And.intro e3 (And.intro e4 e5))))
    obtain ⟨t2, t3, t5, R8, R0⟩ := hin.out (poolC P1 :: (D.M ++ B1.L)) w3 (by simpa using A3)
    have C3 := hid (still_any R8 R0 (by rw [← hn.out]; exact hl))
    have A3 := hid A3
    clear T R8 R0 e1 e2 e3 e4 e5
    go_wp2_with fail
    refine C3.out.mono ?_
    rintro e w4 ⟨rfl, q, hw4⟩
    have A4 : Hid (∃ xs : List UInt8, xs.length = n + 8 ∧ All (byC (.slice (some ⟨H, 0, none⟩) (n + 8) cap) xs :: (poolC P1 :: (D.M ++ (B1.L ++ (blkC K [.bool so, .int .i64 ko, .int .i64 a, .int .i64 b, .int .i64 y, .slice ao n c] 33 :: cs))))) w4) := hid (by
      refine ⟨behind d 8, by rw [behind_len, ← hn.out], ?_⟩
      rw [hw4]
      refine (A3.out.later (bdN w3 q)).perm ?_
      have := (List.perm_append_comm_assoc [byC (.slice (some ⟨H, 0, none⟩) (n + 8) cap) (behind d 8)] (poolC P1 :: (D.M ++ B1.L)) (blkC K [.bool so, .int .i64 ko, .int .i64 a, .int .i64 b, .int .i64 y, .slice ao n c] 33 :: cs)).symm
      simpa using this)
    clear A3 C3 t2 t3 t5 hw4
    go_wp2
    go_loopw [9] (fun iv wz => ∃ (i : Nat), i ≤ n + 8 ∧ iv = .int .i64 (i : Int) ∧ Hid (∃ xs : List UInt8, xs.length = n + 8 ∧ All (byC (.slice (some ⟨H, 0, none⟩) (n + 8) cap) xs :: (poolC P1 :: (D.M ++ (B1.L ++ (blkC K [.bool so, .int .i64 ko, .int .i64 a, .int .i64 b, .int .i64 y, .slice ao n c] 33 :: cs))))) wz)) (fun iv _ => (n + 8) - (intOf iv).toNat)
    case atStart => exact ⟨0, by omega, rfl, A4⟩
    case round =>
      clear A4
      obtain ⟨i, hi, rfl, A⟩ := hrel
      by_cases hlt : i < n + 8
      · have hii : (i : Int) < (n : Int) + 8 := by omega
        obtain ⟨xs, hx, A5⟩ := A.out
        obtain ⟨x, s1, s2⟩ := by_cell A5 (j := i) (by rw [hx]; exact hlt)
        have A6 : Hid (∃ xs : List UInt8, xs.length = n + 8 ∧ All (byC (.slice (some ⟨H, 0, none⟩) (n + 8) cap) xs :: (poolC P1 :: (D.M ++ (B1.L ++ (blkC K [.bool so, .int .i64 ko, .int .i64 a, .int .i64 b, .int .i64 y, .slice ao n c] 33 :: cs))))) (wr.setCell ⟨H, i, none⟩ (.int .u8 90))) := hid ⟨xs.set i 90, by rw [List.length_set]; exact hx, A5.bySet hx.symm i 90⟩
        clear A A5 hx
        go_wp2
        go_roundw
        case rel => exact ⟨i + 1, by omega, by go_num, A6⟩
        case measure => simp [intOf]; omega
      · have hii : ¬ (i : Int) < (n : Int) + 8 := by omega
        obtain ⟨xs, hx, A5⟩ := A.out
        have hb := (A5.mem (c := blkC K [.bool so, .int .i64 ko, .int .i64 a, .int .i64 b, .int .i64 y, .slice ao n c] 33) (by simp)).2.1
        have t2 : wr.cell? ⟨K, 2, none⟩ = some (.int .i64 a) := by rw [cell_at hb]; rfl
        have t3 : wr.cell? ⟨K, 3, none⟩ = some (.int .i64 b) := by rw [cell_at hb]; rfl
        have t5 : wr.cell? ⟨K, 5, none⟩ = some (.slice ao n c) := by rw [cell_at hb]; rfl
        have A6 : All (poolC P1 :: (D.M ++ (B1.L ++ (byC (.slice (some ⟨H, 0, none⟩) (n + 8) cap) xs :: blkC K [.bool so, .int .i64 ko, .int .i64 a, .int .i64 b, .int .i64 y, .slice ao n c] 33 :: cs)))) wr := A5.perm (by
          have := (List.perm_append_comm_assoc [byC (.slice (some ⟨H, 0, none⟩) (n + 8) cap) xs] (poolC P1 :: (D.M ++ B1.L)) (blkC K [.bool so, .int .i64 ko, .int .i64 a, .int .i64 b, .int .i64 y, .slice ao n c] 33 :: cs))
          simpa using this)
        have C4 := hid (rAdd_any (f := a) (t := b) (s := .slice ao n c) (l := d) (ao := ao) (c := c) A6 Q.out.2.2.2.1 (k := k) (by rw [he]; exact ho) hk (by rw [hn.out]) (fun X W A => HRd.out (X ++ (poolC P1 :: (B1.L ++ [byC (.slice (some ⟨H, 0, none⟩) (n + 8) cap) xs, blkC K [.bool so, .int .i64 ko, .int .i64 a, .int .i64 b, .int .i64 y, .slice ao n c] 33]))) W (by simpa using A)) (by rw [← hn.out]; omega))
        rw [he, ← hE.out] at C4
        clear A A5 A6 hx hb
        go_wp2_with fail
        refine C4.out.mono ?_
        rintro e w5 ⟨rfl, T5⟩
        have T5 := hid T5
        clear C4 t2 t3 t5
        have bE : (E == E) = true := by simp
        go_wp2
        go_ret
        exact ⟨rfl, (Pr.of T5.out Q.out.1 Q.out.2.1 Q.out.2.2.1 Q.out.2.2.2.2).drop.drop⟩)
end Go.Proofs.Ytpfpamkbahgkpaa

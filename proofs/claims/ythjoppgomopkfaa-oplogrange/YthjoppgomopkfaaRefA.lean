import Derived.Test.YthjoppgomopkfaaAppE
import Derived.Test.YthjoppgomopkfaaLog2
namespace Go.Proofs.Ythjoppgomopkfaa
open Go.RowKit
set_option linter.unusedVariables false

/-- The document's log, as parts. -/
def refP (p n b : Nat) (v : Value) (l : List Ent) : List Comp := [blkC p [.int .i64 (n : Int), .int .i64 (b : Int), v] 47, entC v l]
def RefAt (w : World) (p n b : Nat) (v : Value) : Prop := w.heap[p]? = some (.cells #[.int .i64 (n : Int), .int .i64 (b : Int), v] 47 (0, 0))
theorem All.ref {p n b : Nat} {v : Value} {l : List Ent} {cs : List Comp} {w : World} (h : All (refP p n b v l ++ cs) w) : RefAt w p n b v := h.1.2.1
theorem All.refRow {p n b : Nat} {v : Value} {l : List Ent} {cs : List Comp} {w : World} (h : All (refP p n b v l ++ cs) w) : w.ownsRow 0 39 7 v l.length (flatE l) := h.tail.1.2.1
theorem RefAt.c0 {w : World} {p n b : Nat} {v : Value} (h : RefAt w p n b v) : w.cell? ⟨p, 0, none⟩ = some (.int .i64 (n : Int)) := by rw [cell_at h]; rfl
theorem RefAt.c1 {w : World} {p n b : Nat} {v : Value} (h : RefAt w p n b v) : w.cell? ⟨p, 1, none⟩ = some (.int .i64 (b : Int)) := by rw [cell_at h]; rfl
theorem RefAt.c2 {w : World} {p n b : Nat} {v : Value} (h : RefAt w p n b v) : w.cell? ⟨p, 2, none⟩ = some v := by rw [cell_at h]; rfl
theorem RefAt.later {w w' : World} {p n b : Nat} {v : Value} (h : RefAt w p n b v) (hb : Below w.heap.size w w') : RefAt w' p n b v := (hb.block p (Array.getElem?_eq_some_iff.1 h).1).trans h

theorem rNew_no {w : World} (r : Int) (hr : ¬ (1 ≤ r ∧ r ≤ 64)) : Calls Try.prog 7 #[.int .i64 r] w fun e w' => e = .returned (.tuple #[.pointer none, .int .i64 90]) ∧ w' = w := by
  by_cases h1 : r < 1
  · have e1 : decide (r < 1) = true := decide_eq_true h1
    go_enter Try.func7, Try.ntmps7
    go_wp2
    go_ret2
    exact ⟨rfl, rfl⟩
  · have e1 : decide (r < 1) = false := decide_eq_false h1
    have h2 : 64 < r := by omega
    have e2 : decide (64 < r) = true := decide_eq_true h2
    go_enter Try.func7, Try.ntmps7
    go_wp2
    go_ret2
    exact ⟨rfl, rfl⟩

set_option maxRecDepth 1000000 in
theorem rNew_ok {cs : List Comp} {w : World} (hA : All cs w) (n : Nat) (h0 : 0 < n) (hn : n ≤ 64) : Calls Try.prog 7 #[.int .i64 (n : Int)] w fun e w' => ∃ p, e = .returned (.tuple #[.pointer (some ⟨p, 0, none⟩), .int .i64 0]) ∧ All (refP p n 0 (.slice none 0 0) [] ++ cs) w' := by
  have e1 : decide ((n : Int) < 1) = false := decide_eq_false (by omega)
  have e2 : decide ((64 : Int) < (n : Int)) = false := decide_eq_false (by omega)
  have i1 : ¬ ((n : Int) < 1) := by omega
  have i2 : ¬ ((64 : Int) < (n : Int)) := by omega
  have A2 := hid ((hA.addRow0 (e := 39) (size := 7)).addBlk [.int .i64 (n : Int), .int .i64 0, .slice none 0 0] 47)
  clear hA
  go_enter Try.func7, Try.ntmps7
  go_wp2
  go_ret2
  exact ⟨_, rfl, A2.out⟩

theorem rOp_any {w : World} {p n b m c : Nat} {ao : Option Addr} (h : RefAt w p n b (.slice ao m c)) (hb : b + m ≤ 1099511627776) : Calls Try.prog 12 #[.pointer (some ⟨p, 0, none⟩)] w fun e w' => e = .returned (.int .i64 ((b + m : Nat) : Int)) ∧ Below w.heap.size w w' := by
  have c1 := h.c1
  have c2 := h.c2
  clear h
  go_enter Try.func12, Try.ntmps12
  go_upto_region 1 with fail
  go_quiet (fail)
  go_wp2
  go_ret
  exact ⟨by go_num, bdN w _⟩
theorem rRoom_any {w : World} {p n b m c : Nat} {ao : Option Addr} (h : RefAt w p n b (.slice ao m c)) (hb : m ≤ n) (hn : n ≤ 64) : Calls Try.prog 14 #[.pointer (some ⟨p, 0, none⟩)] w fun e w' => e = .returned (.int .i64 ((n - m : Nat) : Int)) ∧ Below w.heap.size w w' := by
  have c1 := h.c0
  have c2 := h.c2
  clear h
  go_enter Try.func14, Try.ntmps14
  go_upto_region 1 with fail
  go_quiet (fail)
  go_wp2
  go_ret
  exact ⟨by go_num, bdN w _⟩
set_option maxRecDepth 1000000 in
theorem rhas_any {w : World} {p n b m c : Nat} {ao : Option Addr} (h : RefAt w p n b (.slice ao m c)) (hb : b + m ≤ 1099511627776) (k : Int) : Calls Try.prog 44 #[.pointer (some ⟨p, 0, none⟩), .int .i64 k] w fun e w' => e = .returned (.bool (decide ((b : Int) < k ∧ k ≤ ((b + m : Nat) : Int)))) ∧ Below w.heap.size w w' := by
  have c1 := h.c1
  have H := hid (rOp_any h hb)
  clear h
  by_cases h1 : (b : Int) < k
  · have e1 : decide ((b : Int) < k) = true := decide_eq_true h1
    go_enter Try.func44, Try.ntmps44
    go_wp2_with fail
    refine H.out.mono ?_
    rintro e w1 ⟨rfl, hb1⟩
    generalize hq : b + m = q at *
    go_wp2
    go_ret
    exact ⟨by subst hq; simp [h1], hb1⟩
  · have e1 : decide ((b : Int) < k) = false := decide_eq_false h1
    go_enter Try.func44, Try.ntmps44
    go_wp2
    go_ret
    exact ⟨by simp, Below.refl _ _⟩

set_option maxRecDepth 1000000 in
theorem rAdd_no {p n b : Nat} {v : Value} {l : List Ent} {cs : List Comp} {w : World} (hA : All (refP p n b v l ++ cs) w) (hn : n ≤ 64) (hf : l.length ≤ n) (ht : b + l.length ≤ 1099511627776) (x : Ent) (hno : addE b n l ≠ 0) : Calls Try.prog 18 #[.pointer (some ⟨p, 0, none⟩), x.V] w fun e w' => e = .returned (.int .i64 (addE b n l)) ∧ All (refP p n b v l ++ cs) w' := by
  have A1 := hid (hA.alloc (.cells #[.int .i64 x.c, .int .i64 x.n, .int .i64 x.k, .string x.nm, .string x.tx, .int .i64 x.m, .int .i64 x.q] 39))
  obtain ⟨ao, c, rfl, hc⟩ := owns7_form hA.refRow
  have H1 := hid (fun W (A : All (refP p n b (.slice ao l.length c) l ++ cs) W) => rRoom_any A.ref hf hn)
  have H2 := hid (fun W (A : All (refP p n b (.slice ao l.length c) l ++ cs) W) => rOp_any A.ref ht)
  clear hA
  by_cases h1 : l.length = n
  · have e0 : n - l.length = 0 := by omega
    have e9 : addE b n l = 91 := by simp [addE, h1]
    rw [e9]
    have G1 := hid (H1.out _ A1.out)
    rw [e0] at G1
    clear H1 H2 hno e0 e9
    go_enter Try.func18, Try.ntmps18
    go_wp2_with fail
    refine G1.out.mono ?_
    rintro e w1 ⟨rfl, hb⟩
    have A2 := hid (A1.out.later hb)
    clear G1 A1 hb
    go_wp2
    go_ret
    exact ⟨rfl, A2.out⟩
  · have h2 : b + l.length = 1099511627776 := by
      unfold addE at hno
      rw [if_neg h1] at hno
      by_cases h : b + l.length = 1099511627776
      · exact h
      · rw [if_neg h] at hno; exact absurd rfl hno
    have e9 : addE b n l = 93 := by simp [addE, h1, h2]
    rw [e9]
    have G1 := hid (H1.out _ A1.out)
    clear H1 hno e9
    generalize hr : n - l.length = r at *
    have e0 : ((r : Int) == 0) = false := by simp; omega
    have e1 : ¬ (r : Int) = 0 := by omega
    go_enter Try.func18, Try.ntmps18
    go_wp2_with fail
    refine G1.out.mono ?_
    rintro e w1 ⟨rfl, hb⟩
    have A2 := hid (A1.out.later hb)
    have G2 := hid (H2.out _ A2.out)
    rw [h2] at G2
    clear G1 A1 hb H2
    go_wp2_with fail
    refine G2.out.mono ?_
    rintro e w2 ⟨rfl, hb⟩
    have A3 := hid (A2.out.later hb)
    clear G2 A2 hb
    go_wp2
    go_ret
    exact ⟨rfl, A3.out⟩

set_option maxHeartbeats 800000 in
set_option maxRecDepth 1000000 in
theorem rAdd_ok {p n b : Nat} {v : Value} {l : List Ent} {cs : List Comp} {w : World} (hA : All (refP p n b v l ++ cs) w) (hn : n ≤ 64) (hf : l.length < n) (ht : b + l.length < 1099511627776) (x : Ent) : Calls Try.prog 18 #[.pointer (some ⟨p, 0, none⟩), x.V] w fun e w' => e = .returned (.int .i64 0) ∧ ∃ v', All (refP p n b v' (l ++ [x]) ++ cs) w' := by
  have A1 : Hid (All (blkC w.heap.size x.cells 39 :: (refP p n b v l ++ cs)) (w.alloc (.cells #[.int .i64 x.c, .int .i64 x.n, .int .i64 x.k, .string x.nm, .string x.tx, .int .i64 x.m, .int .i64 x.q] 39))) := hid (hA.addBlk x.cells 39)
  obtain ⟨ao, c, rfl, hc⟩ := owns7_form hA.refRow
  have G1 := hid (rRoom_any A1.out.tail.ref (by omega) hn)
  have H2 := hid (fun W (A : All (refP p n b (.slice ao l.length c) l ++ cs) W) => rOp_any A.ref (by omega))
  clear hA
  generalize hr : n - l.length = r at *
  have e0 : ((r : Int) == 0) = false := by simp; omega
  have e1 : ¬ (r : Int) = 0 := by omega
  go_enter Try.func18, Try.ntmps18
  go_wp2_with fail
  refine G1.out.mono ?_
  rintro e w1 ⟨rfl, hb⟩
  have A2 := hid (A1.out.later hb)
  have G2 := hid (H2.out _ A2.out.tail)
  generalize w.heap.size = K at A2 ⊢
  clear G1 A1 hb H2
  go_wp2_with fail
  refine G2.out.mono ?_
  rintro e w2 ⟨rfl, hb⟩
  have A3 := hid (A2.out.later hb)
  clear G2 A2 hb
  generalize hq : b + l.length = q at *
  have e2 : ((q : Int) == 1099511627776) = false := by simp; omega
  have e3 : ¬ (q : Int) = 1099511627776 := by omega
  have c2 := A3.out.tail.ref.c2
  have f2 := free_at A3.out.tail.ref 2
  have hpl : p < w2.heap.size := (Array.getElem?_eq_some_iff.1 A3.out.tail.ref).1
  obtain ⟨s1, s2, s3, s4, s5, s6, s7⟩ := entAt_of (range_one A3.out.1.2.1)
  obtain ⟨i0, hi, hz0, hz1, hz2⟩ := info_parts Try.info39
  have A4 : Hid (All (entC (.slice ao l.length c) l :: blkC p [.int .i64 (n : Int), .int .i64 (b : Int), .slice ao l.length c] 47 :: cs) (w2.drew.alloc (.cells #[.int .i64 x.c, .int .i64 x.n, .int .i64 x.k, .string x.nm, .string x.tx, .int .i64 x.m, .int .i64 x.q] 39))) := hid ((A3.out.tail.drew.alloc _).swap)
  have hrow := A4.out.1.2.1
  have hnews : ∀ j u, x.cells[j]? = some u → (w2.drew.alloc (.cells #[.int .i64 x.c, .int .i64 x.n, .int .i64 x.k, .string x.nm, .string x.tx, .int .i64 x.m, .int .i64 x.q] 39)).cell? ((⟨w2.drew.heap.size, 0, none⟩ : Addr).add j) = some u := fun j u hu => by
    rw [Addr.add_lit, Nat.zero_add, cell_at (heap_alloc_new w2.drew _)]
    exact (List.getElem?_toArray (xs := x.cells) ..).trans hu
  have FIN : Hid (∀ ao' cap' w7, w7.ownsRow 0 39 7 (.slice ao' (l.length + 1) cap') (l.length + 1) (flatE l ++ x.cells) → (w2.drew.alloc (.cells #[.int .i64 x.c, .int .i64 x.n, .int .i64 x.k, .string x.nm, .string x.tx, .int .i64 x.m, .int .i64 x.q] 39)).grownBy w7 (Value.slice ao l.length c).ownBlock → ((Value.slice ao' (l.length + 1) cap').ownBlock = (Value.slice ao l.length c).ownBlock ∨ (Value.slice ao' (l.length + 1) cap').ownBlock = some (w2.drew.alloc (.cells #[.int .i64 x.c, .int .i64 x.n, .int .i64 x.k, .string x.nm, .string x.tx, .int .i64 x.m, .int .i64 x.q] 39)).heap.size) → w7.cell? ⟨p, 2, none⟩ = some (.slice ao l.length c) ∧ w7.frozen? ⟨p, 2, none⟩ = false ∧ Hid (All (refP p n b (.slice ao' (l.length + 1) cap') (l ++ [x]) ++ cs) (w7.setCell ⟨p, 2, none⟩ (.slice ao' (l.length + 1) cap')))) := hid (fun ao' cap' w7 h1 h2 h3 => by
    have B := A4.out.rowGrow (vs' := flatE (l ++ [x])) (n' := (l ++ [x]).length) (by rw [flatE_snoc, List.length_append]; exact h1) h2 h3
    have eb := B.tail.1.2.1
    refine ⟨by rw [cell_at eb]; rfl, free_at eb 2, hid ?_⟩
    exact B.swap.setBlk 2 (.slice ao' (l.length + 1) cap'))
  have hone := x.one
  have hcl : x.cells = [.int .i64 x.c, .int .i64 x.n, .int .i64 x.k, .string x.nm, .string x.tx, .int .i64 x.m, .int .i64 x.q] := rfl
  clear A3 A4
  go_upto_region 5 with fail
  go_region_law (first | (refine step_append_own2 (by rfl) (.tmp 15) (.tmp 17) 40 (by rfl) 0 39 i0 (.agg Ent.zero.cells.toArray) 7 72 Try.underlying40 hi hz0 hz1 hz2 rfl (by decide) _ l.length (flatE l) (by rfl) hrow _ 1 1 x.cells (by rfl) (by rfl) hnews hone (by unfold maxLen; omega) (by omega) (by omega) ?_; intro ao' cap' w7 ho7 hg7 hat7; obtain ⟨k0, fk, HF⟩ := FIN.out _ _ _ ho7 hg7 hat7; clear ho7 hg7 hat7))
  all_goals clear FIN hrow hnews hone
  all_goals (go_wp2; go_ret; exact ⟨rfl, _, HF.out⟩)

theorem rAdd_any {p n b : Nat} {v : Value} {l : List Ent} {cs : List Comp} {w : World} (hA : All (refP p n b v l ++ cs) w) (hn : n ≤ 64) (hf : l.length ≤ n) (ht : b + l.length ≤ 1099511627776) (x : Ent) : Calls Try.prog 18 #[.pointer (some ⟨p, 0, none⟩), x.V] w fun e w' => e = .returned (.int .i64 (addE b n l)) ∧ ∃ v' l', l' = (if addE b n l = 0 then l ++ [x] else l) ∧ All (refP p n b v' l' ++ cs) w' := by
  by_cases h : addE b n l = 0
  · have h1 : ¬ l.length = n := fun e => by simp [addE, e] at h
    have h2 : ¬ b + l.length = 1099511627776 := fun e => by simp [addE, h1, e] at h
    refine (rAdd_ok hA hn (by omega) (by omega) x).mono ?_
    rintro e w' ⟨rfl, v', A⟩
    exact ⟨by rw [h], v', _, by rw [if_pos h], A⟩
  · refine (rAdd_no hA hn hf ht x h).mono ?_
    rintro e w' ⟨rfl, A⟩
    exact ⟨rfl, v, _, by rw [if_neg h], A⟩
end Go.Proofs.Ythjoppgomopkfaa

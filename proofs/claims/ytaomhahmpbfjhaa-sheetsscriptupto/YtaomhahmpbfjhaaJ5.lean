import Derived.Test.YtaomhahmpbfjhaaJ4
import Derived.BigQuiet
import Derived.WalkKit
import Derived.OwnWalkIn
import Derived.TacticsInMore
import Derived.LoopNIn
import Derived.LoopIn
namespace Go.Proofs.Ytaomhahmpbfjhaa
open Go.RowKit Go.Sort
set_option linter.unusedVariables false

/-- An inner node has the greater of its two children's stamps. -/
def Ord (N : Nodes) (j : Nat) : Prop := (N j).1 = max (N (2 * j)).1 (N (2 * j + 1)).1

/-- On the way up: what is not above k is right. -/
def Mid (lv : Nat) (N0 N : Nodes) (k : Nat) : Prop :=
  (∀ j, lv ≤ j → N j = N0 j) ∧ ∀ j, 1 ≤ j → j < lv → (∀ i, 1 ≤ i → k / 2 ^ i ≠ j) → Ord N j

theorem Mid.start {lv num : Nat} {N : Nodes} {x : Nat × Value × List UInt8} (h : ∀ j, 1 ≤ j → j < lv → Ord N j) : Mid lv (upd N (lv + num) x) (upd N (lv + num) x) (lv + num) := by
  refine ⟨fun _ _ => rfl, fun j h1 h2 hi => ?_⟩
  have h3 := hi 1 (by omega)
  have e1 : ¬ j = lv + num := by omega
  have e2 : ¬ 2 * j = lv + num := by intro e; apply h3; omega
  have e3 : ¬ 2 * j + 1 = lv + num := by intro e; apply h3; omega
  have := h j h1 h2
  simpa only [Ord, upd, if_neg e1, if_neg e2, if_neg e3] using this

theorem Mid.step {lv k : Nat} {N0 N : Nodes} (h : Mid lv N0 N k) (hk : 2 ≤ k) (hk2 : k < 2 * lv) (v : Value) (l : List UInt8) : Mid lv N0 (upd N (k / 2) (max (N (2 * (k / 2))).1 (N (2 * (k / 2) + 1)).1, v, l)) (k / 2) := by
  refine ⟨fun j hj => ?_, fun j h1 h2 hi => ?_⟩
  · have e : ¬ j = k / 2 := by omega
    simp only [upd, if_neg e]
    exact h.1 j hj
  · have h3 := hi 1 (by omega)
    have e2 : ¬ 2 * j = k / 2 := by intro e; apply h3; omega
    have e3 : ¬ 2 * j + 1 = k / 2 := by intro e; apply h3; omega
    by_cases e : j = k / 2
    · subst e
      simp only [Ord, upd, if_true, if_neg e2, if_neg e3]
    · have := h.2 j h1 h2 (fun i hi' => by
        by_cases hi1 : i = 1
        · subst hi1; intro e'; apply e; omega
        · have h4 := hi (i - 1) (by omega)
          intro e'; apply h4
          rw [← e', Nat.div_div_eq_div_mul]
          congr 1
          rw [← Nat.pow_succ', show (i - 1).succ = i by omega])
      simp only [Ord, upd, if_neg e, if_neg e2, if_neg e3]
      exact this

theorem Mid.stop {lv : Nat} {N0 N : Nodes} (h : Mid lv N0 N 1) : ∀ j, 1 ≤ j → j < lv → Ord N j := fun j h1 h2 => h.2 j h1 h2 (fun i hi e => by
  have : 1 / 2 ^ i = 0 := Nat.div_eq_of_lt (Nat.one_lt_two_pow (by omega))
  omega)

theorem tdiv2 (k : Nat) : Int.tdiv (k : Int) 2 = ((k / 2 : Nat) : Int) := by
  rw [Int.tdiv_eq_ediv_of_nonneg (by omega)]; rfl

theorem wrap64_small (n : Nat) (h : n < 1000) : wrap64 (n : Int) = n := by unfold wrap64; omega
theorem max_if (a b : Nat) : (if a < b then (b : Int) else (a : Int)) = ((max a b : Nat) : Int) := by split <;> omega

/-- What a tree has become. -/
def Became (P : Pool) (g : Nat) (pre : List Value) (lv : Nat) (t : TypeId) (cs : List Comp) (N0 : Nodes) (w : World) : Prop :=
  ∃ Q qs M, All (poolC Q :: blkC g (treeL pre lv qs) t :: cs) w ∧ Tr Q qs M ∧ (∀ x ∈ P, x ∈ Q) ∧ (∀ j, 1 ≤ j → j < lv → Ord M j) ∧ ∀ j, lv ≤ j → M j = N0 j

set_option maxHeartbeats 4000000 in
theorem setLeaf_all {w : World} {g num lv : Nat} {pre : List Value} {ps : List Nat} {N : Nodes} {P : Pool} {t : TypeId} {cs : List Comp} {a : Nat} {v : Value} {l : List UInt8} (hA : All (poolC P :: blkC g (treeL pre lv ps) t :: cs) w) (hT : Tr P ps N) (hlv : lv ≤ 64) (hk : num < lv) (hd : DatP P v l) (hO : ∀ j, 1 ≤ j → j < lv → Ord N j) :
    Calls Try.prog 53 #[.pointer (some ⟨g, pre.length, none⟩), .int .i64 (num : Int), .agg #[.int .i64 (a : Int), v]] w fun e w' => (∃ v, e = .returned v) ∧ Became P g pre lv t cs (upd N (lv + num) (a, v, l)) w' := by
  obtain ⟨ao, n, c, rfl⟩ := hd.form
  have hg : w.heap[g]? = some (.cells (treeL pre lv ps).toArray t (0, 0)) := hA.blk (by simp)
  have hgw := (Array.getElem?_eq_some_iff.1 hg).1
  have hL : w.cell? ⟨g, pre.length, none⟩ = some (.int .i64 (lv : Int)) := by rw [cell_at hg]; simpa using treeL_leaves pre lv ps
  have hw1 : IntKind.i64.wrap ((lv : Int) + (num : Int)) = ((lv + num : Nat) : Int) := by rw [IntKind.wrap_i64]; omega
  have W1 := hid (write_all (k := lv + num) (a := a) (hA.alloc (.cells #[.int .i64 (a : Int), .slice ao n c] 82)) hT (by omega) hd)
  have M0 := hid (Mid.start (num := num) (x := (a, .slice ao n c, l)) hO)
  have B0 := hid (show 1 ≤ lv + num ∧ lv + num < 2 * lv by omega)
  have LV := hid hlv
  generalize upd N (lv + num) (a, .slice ao n c, l) = N0 at *
  generalize lv + num = k0 at *
  clear hA hT hlv hk hd hO hg
  obtain ⟨o, ho⟩ : ∃ o, Hid (o = pre.length) := ⟨_, hid rfl⟩
  rw [← ho.out] at hL W1 ⊢
  refine (callsIn_wide (n := 9)).1 (callsIn_of_wp Try.func53 rfl trivial ?_ rfl)
  simp only [Try.ntmps53, List.size_toArray, List.length_cons, List.length_nil, Nat.reduceAdd, Nat.reduceSub, Array.replicate_succ, Array.replicate_zero, List.push_toArray, List.append_toArray, List.nil_append, List.cons_append]
  gi_wp2
  refine ⟨trivial, (callsIn_wide.2 W1.out).mono ?_⟩
  rintro e w1 ⟨⟨v1, rfl⟩, P1, ps1, A1, T1, S1⟩
  gi_wp2
  gi_loopw [6] (fun p wr => ∃ k : Nat, p = .int .i64 k ∧ Hid (1 ≤ k ∧ k < 2 * lv) ∧ Hid (∃ Q qs M, All (poolC Q :: blkC g (treeL pre lv qs) t :: cs) wr ∧ Tr Q qs M ∧ (∀ x ∈ P, x ∈ Q) ∧ Mid lv N0 M k))
    (fun p _ => match p with | .int _ i => i.toNat | _ => 0)
  case atStart => exact ⟨k0, rfl, B0, hid ⟨_, _, _, A1, T1, S1, M0.out⟩⟩
  case round =>
    obtain ⟨k, rfl, hkb, hin⟩ := hrel
    by_cases hk1 : (k : Int) > 1
    · obtain ⟨Q, qs, M, hA, hT, hS, hM⟩ := hin.out
      have hkk := hkb.out
      have hlv := LV.out
      have d2 := tdiv2 k
      have hg : wr.heap[g]? = some (.cells (treeL pre lv qs).toArray t (0, 0)) := hA.blk (by simp)
      have V := hT.view (fun x hx => hA.poolIn hx) hg
      rw [← ho.out] at V
      obtain ⟨p1, n1, n2, n3, n4⟩ := V.node (2 * (k / 2)) (by omega)
      obtain ⟨p2, m1, m2, m3, m4⟩ := V.node (2 * (k / 2) + 1) (by omega)
      have H1 : ∀ d os, CallsIn Fence.wide 8 Try.prog 42 #[.pointer (some ⟨g, o, none⟩), .int .i64 ((2 * (k / 2) : Nat) : Int)] (grow (redrawn wr d) os) fun e w'' => e = .returned (.pointer (some ⟨p1, 2 * (k / 2) % 8 * 2, none⟩)) ∧ ∃ p : Regrown, w'' = grow (redrawn wr p.d) p.os := fun d os => CallsIn.regrown_of (callsIn_wide.2 ((node_any (by omega) (cell_regrown n1 d os)).mono (fun e w' h => ⟨h.1, by rw [h.2]; exact Below.refl _ _⟩)))
      have H2 : ∀ d os, CallsIn Fence.wide 8 Try.prog 42 #[.pointer (some ⟨g, o, none⟩), .int .i64 ((2 * (k / 2) + 1 : Nat) : Int)] (grow (redrawn wr d) os) fun e w'' => e = .returned (.pointer (some ⟨p2, (2 * (k / 2) + 1) % 8 * 2, none⟩)) ∧ ∃ p : Regrown, w'' = grow (redrawn wr p.d) p.os := fun d os => CallsIn.regrown_of (callsIn_wide.2 ((node_any (by omega) (cell_regrown m1 d os)).mono (fun e w' h => ⟨h.1, by rw [h.2]; exact Below.refl _ _⟩)))
      have WW := fun (w2 : World) (hB : Below wr.heap.size wr w2) => (write_all (k := k / 2) (a := max (M (2 * (k / 2))).1 (M (2 * (k / 2) + 1)).1) (v := .slice none 0 0) (l := []) (hA.later hB) hT (by omega) (Or.inl ⟨rfl, rfl⟩))
      rw [← ho.out] at WW
      have WW := hid WW
      have E0 : IntKind.i64.wrap ((k / 2 : Nat) : Int) = ((k / 2 : Nat) : Int) := by rw [IntKind.wrap_i64]; omega
      have E00 : wrap64 ((k / 2 : Nat) : Int) = ((k / 2 : Nat) : Int) := wrap64_small _ (by omega)
      have E1 : IntKind.i64.wrap (2 * ((k / 2 : Nat) : Int)) = ((2 * (k / 2) : Nat) : Int) := by rw [IntKind.wrap_i64]; omega
      have E2 : IntKind.i64.wrap (((2 * (k / 2) : Nat) : Int) + 1) = ((2 * (k / 2) + 1 : Nat) : Int) := by rw [IntKind.wrap_i64]; omega
      have MM := hid (hM.step (by omega) hkk.2 (.slice none 0 0) [])
      have KB := hid (show 1 ≤ k / 2 ∧ k / 2 < 2 * lv ∧ k / 2 < k by omega)
      have mxe := hid (max_if (M (2 * (k / 2))).1 (M (2 * (k / 2) + 1)).1)
      have n2 := cell_regrown n2
      have m2 := cell_regrown m2
      have SS := hid hS
      generalize upd M (k / 2) (max (M (2 * (k / 2))).1 (M (2 * (k / 2) + 1)).1, .slice none 0 0, []) = M2 at *
      generalize max (M (2 * (k / 2))).1 (M (2 * (k / 2) + 1)).1 = mx at *
      generalize (M (2 * (k / 2))).1 = x1 at *
      generalize (M (2 * (k / 2) + 1)).1 = x2 at *
      generalize 2 * (k / 2) % 8 * 2 = r1 at *
      generalize (2 * (k / 2) + 1) % 8 * 2 = r2 at *
      generalize 2 * (k / 2) + 1 = k2 at *
      generalize 2 * (k / 2) = k1 at *
      generalize k / 2 = kh at *
      clear hA hT hS hM V n1 n3 n4 m1 m3 m4 hg hkb hin hkk W1 A1 T1 S1 M0 hL hlv
      have wfa : ∀ f, Fence.wide.fn f = True := fun _ => rfl
      gi_wp2
      refine last_in rfl rfl (by kernel_rfl) (by kernel_rfl) (by kernel_rfl) rfl ?_
      simp only [nopLast, nopOf, List.dropLast, List.getLast_cons_cons, List.getLast_singleton]
      repeat (quiet_step_in (first | with_reducible exact H1 _ _ | with_reducible exact H2 _ _))
      refine wpQuietIn_nil ?_
      intro w2 hB2
      clear wfa H1 H2 n2 m2
      simp only [mxe.out]
      gi_wp2
      refine ⟨trivial, (callsIn_wide.2 (WW.out w2 hB2)).mono ?_⟩
      rintro e w3 ⟨⟨v3, rfl⟩, Q3, qs3, A3, T3, S3⟩
      have HF : Hid (∃ Q qs M, All (poolC Q :: blkC g (treeL pre lv qs) t :: cs) w3 ∧ Tr Q qs M ∧ (∀ x ∈ P, x ∈ Q) ∧ Mid lv N0 M kh) := hid ⟨_, _, _, A3, T3, fun x hx => S3 x (SS.out x hx), MM.out⟩
      clear A3 T3 S3 WW
      clear hB2 SS MM mxe E1 E2 E0 E00
      gi_wp2
      exact ⟨⟨kh, rfl, hid ⟨KB.out.1, KB.out.2.1⟩, HF⟩, by have := KB.out; simp only [Int.toNat_natCast]; omega⟩
    · have k1 : Hid (k = 1) := hid (by have := hkb.out; omega)
      obtain ⟨Q, qs, M, hA, hT, hS, hM⟩ := hin.out
      have FIN := hid (show Became P g pre lv t cs N0 wr from ⟨Q, qs, M, hA, hT, hS, by rw [k1.out] at hM; exact hM.stop, hM.1⟩)
      clear hA hT hS hM hin W1 A1 T1 S1 M0 hL hkb B0 k1
      gi_wp2
      go_end0
      exact ⟨⟨_, rfl⟩, FIN.out⟩

end Go.Proofs.Ytaomhahmpbfjhaa

namespace Go.Proofs.Ytaomhahmpbfjhaa
open Go.RowKit Go.Sort
set_option linter.unusedVariables false

/-- A book in memory. -/
def bookL (n lv : Nat) (ps : List Nat) : List Value := treeL [.int .i64 (n : Int)] lv ps

/-- What a book has become. -/
def BookIs (P : Pool) (g n lv : Nat) (cs : List Comp) (N0 : Nodes) (w : World) : Prop := Became P g [.int .i64 (n : Int)] lv 70 cs N0 w

/-- A book with one sheet set. -/
def SetIs (P : Pool) (g n lv : Nat) (cs : List Comp) (N : Nodes) (num a : Nat) (l : List UInt8) (w : World) : Prop := ∃ v, BookIs P g n lv cs (upd N (lv + num) (a, v, l)) w

set_option maxHeartbeats 4000000 in
theorem set_all {w : World} {g num lv n : Nat} {ps : List Nat} {N : Nodes} {P : Pool} {cs : List Comp} {a : Nat} {s : Value} {l : List UInt8} (hA : All (poolC P :: blkC g (bookL n lv ps) 70 :: cs) w) (hT : Tr P ps N) (hlv : lv ≤ 64) (hk : num < lv) (hO : ∀ j, 1 ≤ j → j < lv → Ord N j) (hs : Reads w s l) (hl : l.length ≤ 2304) :
    Calls Try.prog 37 #[.pointer (some ⟨g, 0, none⟩), .int .i64 (num : Int), .int .i64 (a : Int), s] w fun e w' => (∃ v, e = .returned v) ∧ SetIs P g n lv cs N num a l w' := by
  have C := hid (Clone_any hs.drew (by omega))
  obtain ⟨ao, c, rfl⟩ := hs.form
  have F : ∀ (w2 : World) (v : Value), w2.ownsRow w.drew.heap.size 5 1 v l.length (cellsB l) → Below w.drew.heap.size w.drew w2 → ∃ ao n' c', v = .slice ao n' c' ∧ Calls Try.prog 53 #[.pointer (some ⟨g, 1, none⟩), .int .i64 (num : Int), .agg #[.int .i64 (a : Int), .slice ao n' c']] w2 fun e w' => (∃ v, e = .returned v) ∧ SetIs P g n lv cs N num a l w' := by
    intro w2 v ho hb
    obtain ⟨ao, c', rfl⟩ := owns_form ho
    obtain ⟨Q, hQ, hD, hS⟩ := hA.drew.poolRow ho hb
    refine ⟨_, _, _, rfl, (setLeaf_all (pre := [.int .i64 (n : Int)]) hQ (hT.mono hS) hlv hk hD hO).mono ?_⟩
    rintro e w' ⟨he, Q', qs, M, h1, h2, h3, h4⟩
    exact ⟨he, _, Q', qs, M, h1, h2, fun x hx => h3 x (hS x hx), h4⟩
  have F := hid F
  clear hA hT hlv hk hO hs hl
  generalize l.length = ll at *
  go_enter Try.func37, Try.ntmps37
  go_region_law (go_simp; first | (go_at_call 44; refine C.out.mono ?_; rintro e w2 ⟨v, rfl, ho, hb⟩; obtain ⟨a2, n2, c2, rfl, hF⟩ := F.out _ _ ho hb; clear ho hb) | (go_at_call 53; refine hF.mono ?_; rintro e w3 ⟨⟨v3, rfl⟩, h3⟩))
  go_end0
  exact ⟨⟨_, rfl⟩, h3⟩

/-- The greatest stamp of some sheets. -/
def mx (S : Nat → Nat × List UInt8) (from_ : Nat) : Nat → Nat
  | 0 => 0
  | c + 1 => max (mx S from_ c) (S (from_ + c)).1

theorem mx_add (S : Nat → Nat × List UInt8) (f a : Nat) : ∀ b, mx S f (a + b) = max (mx S f a) (mx S (f + a) b)
  | 0 => by simp [mx]
  | b + 1 => by rw [Nat.add_succ, mx, mx_add S f a b, mx, Nat.add_assoc, Nat.max_assoc]

theorem mx_le (S : Nat → Nat × List UInt8) (f : Nat) {i : Nat} : ∀ {c}, i < c → (S (f + i)).1 ≤ mx S f c
  | c + 1, h => by
    rw [mx]
    by_cases e : i = c
    · subst e; omega
    · have := mx_le S f (c := c) (i := i) (by omega); omega
theorem mx_ex (S : Nat → Nat × List UInt8) (f : Nat) : ∀ c, mx S f c = 0 ∨ ∃ i, i < c ∧ (S (f + i)).1 = mx S f c
  | 0 => Or.inl rfl
  | c + 1 => by
    rw [mx]
    by_cases h : (S (f + c)).1 ≤ mx S f c
    · rw [Nat.max_eq_left h]
      rcases mx_ex S f c with e | ⟨i, hi, e⟩
      · exact Or.inl e
      · exact Or.inr ⟨i, by omega, e⟩
    · exact Or.inr ⟨c, by omega, by omega⟩
theorem mx_gt {S : Nat → Nat × List UInt8} {f c x : Nat} (h : x < mx S f c) : ∃ i, i < c ∧ x < (S (f + i)).1 := by
  rcases mx_ex S f c with e | ⟨i, hi, e⟩
  · omega
  · exact ⟨i, hi, by omega⟩
theorem mx_of_le {S : Nat → Nat × List UInt8} {f x : Nat} : ∀ {c}, (∀ i, i < c → (S (f + i)).1 ≤ x) → mx S f c ≤ x
  | 0, _ => by simp [mx]
  | c + 1, h => by
    rw [mx]
    have := mx_of_le (c := c) (fun i hi => h i (by omega))
    have := h c (by omega)
    omega

/-- A book, and what it has. -/
structure Bk (P : Pool) (n lv : Nat) (ps : List Nat) (N : Nodes) (S : Nat → Nat × List UInt8) : Prop where
  tr : Tr P ps N
  ord : ∀ j, 1 ≤ j → j < lv → Ord N j
  pow : ∃ h, h ≤ 6 ∧ lv = 2 ^ h
  n1 : 1 ≤ n
  nlv : n ≤ lv
  lvn : lv < 2 * n
  sh : ∀ i, i < lv → ((N (lv + i)).1, (N (lv + i)).2.2) = S i
  zero : ∀ i, n ≤ i → S i = (0, [])
  cap : ∀ i, (S i).1 ≤ 1099511627776 ∧ (S i).2.length ≤ 2304

theorem Bk.lv64 {P : Pool} {n lv : Nat} {ps : List Nat} {N : Nodes} {S : Nat → Nat × List UInt8} (h : Bk P n lv ps N S) : lv ≤ 64 := by
  obtain ⟨e, he, rfl⟩ := h.pow
  calc 2 ^ e ≤ 2 ^ 6 := Nat.pow_le_pow_right (by omega) he
    _ = 64 := rfl

theorem Bk.mono {P Q : Pool} {n lv : Nat} {ps : List Nat} {N : Nodes} {S : Nat → Nat × List UInt8} (h : Bk P n lv ps N S) (hs : ∀ x ∈ P, x ∈ Q) : Bk Q n lv ps N S :=
  ⟨h.tr.mono hs, h.ord, h.pow, h.n1, h.nlv, h.lvn, h.sh, h.zero, h.cap⟩

/-- A node has the greatest stamp of the leaves below it. -/
theorem Bk.at {P : Pool} {n h : Nat} {ps : List Nat} {N : Nodes} {S : Nat → Nat × List UInt8} (hB : Bk P n (2 ^ h) ps N S) : ∀ e d q, d + e = h → q < 2 ^ d → (N (2 ^ d + q)).1 = mx S (q * 2 ^ e) (2 ^ e)
  | 0, d, q, hd, hq => by
    have hd : d = h := by omega
    subst hd
    have := hB.sh q hq
    simp [mx, ← this]
  | e + 1, d, q, hd, hq => by
    have h2 : 2 ^ d < 2 ^ h := Nat.pow_lt_pow_right (by omega) (by omega)
    have h3 : 2 ^ (d + 1) ≤ 2 ^ h := Nat.pow_le_pow_right (by omega) (by omega)
    have h4 : 2 ^ (d + 1) = 2 * 2 ^ d := by rw [Nat.pow_succ]; omega
    have hp : 0 < 2 ^ d := Nat.pow_pos (by omega)
    have ho := hB.ord (2 ^ d + q) (by omega) (by omega)
    have c1 := Bk.at hB e (d + 1) (2 * q) (by omega) (by omega)
    have c2 := Bk.at hB e (d + 1) (2 * q + 1) (by omega) (by omega)
    rw [h4] at c1 c2
    have e1 : 2 * (2 ^ d + q) = 2 * 2 ^ d + 2 * q := by omega
    have e2 : 2 * (2 ^ d + q) + 1 = 2 * 2 ^ d + (2 * q + 1) := by omega
    unfold Ord at ho
    rw [ho, e2, e1, c1, c2]
    have h5 : 2 ^ (e + 1) = 2 ^ e + 2 ^ e := by rw [Nat.pow_succ]; omega
    have h6 : q * 2 ^ (e + 1) = 2 * q * 2 ^ e := by rw [Nat.pow_succ, Nat.mul_comm (2 ^ e) 2, ← Nat.mul_assoc, Nat.mul_comm q 2]
    have h7 : (2 * q + 1) * 2 ^ e = 2 * q * 2 ^ e + 2 ^ e := by rw [Nat.add_mul, Nat.one_mul]
    rw [h6, h5, mx_add, h7]

/-- The greatest of all stamps. -/
def lastS (S : Nat → Nat × List UInt8) (n : Nat) : Nat := mx S 0 n

theorem Bk.last {P : Pool} {n lv : Nat} {ps : List Nat} {N : Nodes} {S : Nat → Nat × List UInt8} (hB : Bk P n lv ps N S) : (N 1).1 = lastS S n := by
  obtain ⟨h, hh, rfl⟩ := hB.pow
  have := hB.at h 0 0 (by omega) (by simp)
  simp only [Nat.pow_zero, Nat.add_zero, Nat.zero_mul] at this
  rw [this]
  have hn := hB.nlv
  unfold lastS
  rw [show 2 ^ h = n + (2 ^ h - n) by omega, mx_add]
  have : mx S (0 + n) (2 ^ h - n) ≤ 0 := mx_of_le (fun i hi => by rw [hB.zero (0 + n + i) (by omega)]; simp)
  omega

end Go.Proofs.Ytaomhahmpbfjhaa

namespace Go.Proofs.Ytaomhahmpbfjhaa
open Go.RowKit Go.Sort
set_option linter.unusedVariables false

abbrev Sheets := Nat → Nat × List UInt8

/-- What Put answers. -/
def putE (n : Nat) (S : Sheets) (num at_ : Int) (l : List UInt8) : Int :=
  if ¬ (0 ≤ num ∧ num < n) then 61 else if ¬ (1 ≤ at_ ∧ at_ ≤ 1099511627776) ∨ at_ < lastS S n then 62 else if 2304 < l.length then 63 else 0

/-- One sheet is another. -/
def setS (S : Sheets) (i : Nat) (x : Nat × List UInt8) : Sheets := fun j => if j = i then x else S j

/-- What there is behind it. -/
def putS (n : Nat) (S : Sheets) (num at_ : Int) (l : List UInt8) : Sheets :=
  if putE n S num at_ l = 0 ∧ (S num.toNat).2 ≠ l then setS S num.toNat (at_.toNat, l) else S

/-- A book lies here and has these sheets; the pool has grown. -/
def Has (P : Pool) (g n : Nat) (cs : List Comp) (S : Sheets) (w : World) : Prop :=
  ∃ Q lv ps N, All (poolC Q :: blkC g (bookL n lv ps) 70 :: cs) w ∧ Bk Q n lv ps N S ∧ ∀ x ∈ P, x ∈ Q

theorem Bk.set {P Q : Pool} {n lv : Nat} {ps qs : List Nat} {N M : Nodes} {S : Sheets} (h : Bk P n lv ps N S) {num a : Nat} {v : Value} {l : List UInt8} (hn : num < n) (ha : a ≤ 1099511627776) (hl : l.length ≤ 2304) (hT : Tr Q qs M) (hO : ∀ j, 1 ≤ j → j < lv → Ord M j) (hM : ∀ j, lv ≤ j → M j = upd N (lv + num) (a, v, l) j) : Bk Q n lv qs M (setS S num (a, l)) := by
  have hlv := h.nlv
  refine ⟨hT, hO, h.pow, h.n1, h.nlv, h.lvn, fun i hi => ?_, fun i hi => ?_, fun i => ?_⟩
  · rw [hM (lv + i) (by omega)]
    unfold upd setS
    by_cases e : i = num
    · subst e; simp
    · rw [if_neg (by omega), if_neg e]; exact h.sh i hi
  · unfold setS
    rw [if_neg (by omega)]; exact h.zero i hi
  · unfold setS
    split
    · exact ⟨ha, hl⟩
    · exact h.cap i

theorem SetIs.has {P : Pool} {g n lv : Nat} {cs : List Comp} {ps : List Nat} {N : Nodes} {S : Sheets} {num a : Nat} {l : List UInt8} {w : World} (h : SetIs P g n lv cs N num a l w) (hB : Bk P n lv ps N S) (hn : num < n) (ha : a ≤ 1099511627776) (hl : l.length ≤ 2304) : Has P g n cs (setS S num (a, l)) w := by
  obtain ⟨v, Q, qs, M, hA, hT, hS, hO, hM⟩ := h
  exact ⟨Q, lv, qs, M, hA, hB.set hn ha hl hT hO hM, hS⟩

set_option maxHeartbeats 4000000 in
theorem Put_all {w : World} {g n lv : Nat} {ps : List Nat} {N : Nodes} {P : Pool} {cs : List Comp} {S : Sheets} {num at_ : Int} {s : Value} {l : List UInt8} (hA : All (poolC P :: blkC g (bookL n lv ps) 70 :: cs) w) (hB : Bk P n lv ps N S) (hs : Reads w s l) :
    Calls Try.prog 12 #[.pointer (some ⟨g, 0, none⟩), .int .i64 num, .int .i64 at_, s] w fun e w' => e = .returned (.int .i64 (putE n S num at_ l)) ∧ Has P g n cs (putS n S num at_ l) w' := by
  have hg : w.heap[g]? = some (.cells (treeL [.int .i64 (n : Int)] lv ps).toArray 70 (0, 0)) := hA.blk (by simp [bookL])
  have V := hB.tr.view (fun x hx => hA.poolIn hx) hg
  have same : Has P g n cs S w := ⟨P, lv, ps, N, hA, hB, fun x hx => hx⟩
  have hn : w.cell? ⟨g, 0, none⟩ = some (.int .i64 (n : Int)) := by rw [cell_at hg]; rfl
  have h1 := hid (has_any num hn)
  have h2 := hid (isStamp_any (w := w) at_)
  obtain ⟨ao, c, rfl⟩ := hs.form
  by_cases c1 : ¬ (0 ≤ num ∧ num < n)
  · have E : putE n S num at_ l = 61 := by simp only [putE, if_pos c1]
    have F : putS n S num at_ l = S := by simp only [putS, E]; rfl
    rw [E, F]
    have d1 : decide (0 ≤ num ∧ num < (n : Int)) = false := by simpa using c1
    rw [d1] at h1
    have same := hid same
    clear hA hB hs hg V hn c1 d1 E F
    generalize l.length = ll at *
    go_enter Try.func12, Try.ntmps12
    go_wp2_with (go_at_call 33; refine h1.out.mono ?_; rintro e w' ⟨rfl, rfl⟩)
    go_ret
    exact ⟨rfl, same.out⟩
  have c1 := Classical.not_not.1 c1
  have d1 : decide (0 ≤ num ∧ num < (n : Int)) = true := by simpa using c1
  rw [d1] at h1
  obtain ⟨m, rfl⟩ : ∃ m : Nat, num = m := ⟨num.toNat, by omega⟩
  have hm : m < n := by omega
  by_cases c2 : ¬ (1 ≤ at_ ∧ at_ ≤ 1099511627776)
  · have E : putE n S m at_ l = 62 := by simp only [putE, if_neg (show ¬ ¬ (0 ≤ (m : Int) ∧ (m : Int) < n) from fun h => h c1), if_pos (show ¬ (1 ≤ at_ ∧ at_ ≤ 1099511627776) ∨ at_ < lastS S n from Or.inl c2)]
    have F : putS n S m at_ l = S := by simp only [putS, E]; rfl
    rw [E, F]
    have d2 : decide (1 ≤ at_ ∧ at_ ≤ 1099511627776) = false := by simpa using c2
    rw [d2] at h2
    have same := hid same
    clear hA hB hs hg V hn c1 d1 E F d2 c2 hm
    generalize l.length = ll at *
    go_enter Try.func12, Try.ntmps12
    go_wp2_with (first | (go_at_call 33; refine h1.out.mono ?_; rintro e w' ⟨rfl, rfl⟩) | (go_at_call 34; refine h2.out.mono ?_; rintro e w' ⟨rfl, rfl⟩))
    go_ret
    exact ⟨rfl, same.out⟩
  have c2 := Classical.not_not.1 c2
  have d2 : decide (1 ≤ at_ ∧ at_ ≤ 1099511627776) = true := by simpa using c2
  rw [d2] at h2
  obtain ⟨a, rfl⟩ : ∃ a : Nat, at_ = a := ⟨at_.toNat, by omega⟩
  obtain ⟨p, k1, k2, _, _⟩ := V.node 1 (by omega)
  have hL := hB.last
  rw [hL] at k2
  have h3 := hid (Last_any (g := g) (p := p) (x := lastS S n) k1 k2)
  by_cases c3 : (a : Int) < (lastS S n : Int)
  · have E : putE n S m a l = 62 := by simp only [putE, if_neg (show ¬ ¬ (0 ≤ (m : Int) ∧ (m : Int) < n) from fun h => h c1), if_pos (show ¬ (1 ≤ (a : Int) ∧ (a : Int) ≤ 1099511627776) ∨ (a : Int) < lastS S n from Or.inr c3)]
    have F : putS n S m a l = S := by simp only [putS, E]; rfl
    rw [E, F]
    have d3 : decide ((a : Int) < (lastS S n : Int)) = true := by simpa using c3
    have same := hid same
    generalize lastS S n = la at *
    clear hA hB hs hg V hn c1 d1 E F d2 c2 hm k1 k2 hL
    generalize l.length = ll at *
    go_enter Try.func12, Try.ntmps12
    go_wp2_with (first | (go_at_call 33; refine h1.out.mono ?_; rintro e w' ⟨rfl, rfl⟩) | (go_at_call 34; refine h2.out.mono ?_; rintro e w' ⟨rfl, rfl⟩) | (go_at_call 18; refine h3.out.mono ?_; rintro e w' ⟨rfl, rfl⟩))
    go_ret
    exact ⟨rfl, same.out⟩
  have n62 : ¬ (¬ (1 ≤ (a : Int) ∧ (a : Int) ≤ 1099511627776) ∨ (a : Int) < lastS S n) := by
    rintro (h | h)
    · exact h c2
    · exact c3 h
  have d3 : decide ((a : Int) < (lastS S n : Int)) = false := by simpa using c3
  by_cases c4 : 2304 < l.length
  · have E : putE n S m a l = 63 := by simp only [putE, if_neg (show ¬ ¬ (0 ≤ (m : Int) ∧ (m : Int) < n) from fun h => h c1), if_neg n62, if_pos c4]
    have F : putS n S m a l = S := by simp only [putS, E]; rfl
    rw [E, F]
    have c4 : (2304 : Int) < (l.length : Int) := by omega
    have same := hid same
    generalize lastS S n = la at *
    clear hA hB hs hg V hn c1 d1 E F d2 c2 hm k1 k2 hL n62
    generalize l.length = ll at *
    go_enter Try.func12, Try.ntmps12
    go_wp2_with (first | (go_at_call 33; refine h1.out.mono ?_; rintro e w' ⟨rfl, rfl⟩) | (go_at_call 34; refine h2.out.mono ?_; rintro e w' ⟨rfl, rfl⟩) | (go_at_call 18; refine h3.out.mono ?_; rintro e w' ⟨rfl, rfl⟩))
    go_ret
    exact ⟨rfl, same.out⟩
  have E : putE n S m a l = 0 := by simp only [putE, if_neg (show ¬ ¬ (0 ≤ (m : Int) ∧ (m : Int) < n) from fun h => h c1), if_neg n62, if_neg c4]
  have hlv := hB.lv64
  have hnl := hB.nlv
  obtain ⟨q, q1, q2, q3, q4⟩ := V.node (lv + m) (by omega)
  have h4 := hid (leaf_any (g := g) (o := 1) (k := m) (p := q) (by omega) V.leaves q1)
  have hsh := hB.sh m (by omega)
  have h5 := hid (Equal_any q4 hs)
  have e5 : (N (lv + m)).2.2 = (S m).2 := by rw [← hsh]
  rw [e5] at h5
  have c4i : ¬ (2304 : Int) < (l.length : Int) := by omega
  obtain ⟨b1, b2, b3, hb⟩ : ∃ b1 b2 b3, (N (lv + m)).2.1 = .slice b1 b2 b3 := by
    obtain ⟨b1, b3, hb⟩ := q4.form
    exact ⟨_, _, _, hb⟩
  rw [hb] at q3 h5
  by_cases c5 : (S m).2 = l
  · have F : putS n S m a l = S := by simp only [putS, E]; rw [if_neg]; rintro ⟨_, h⟩; exact h (by simpa using c5)
    rw [E, F]
    have d5 : decide ((S m).2 = l) = true := by simpa using c5
    rw [d5] at h5
    have same := hid same
    generalize lastS S n = la at *
    generalize (lv + m) % 8 * 2 = r at *
    clear hA hB hs hg V hn c1 d1 E F d2 c2 hm k1 k2 hL n62 hsh e5 q1 q2 q4 hb c5 d5 hlv hnl c4
    generalize l.length = ll at *
    go_enter Try.func12, Try.ntmps12
    go_wp2_with (first | (go_at_call 33; refine h1.out.mono ?_; rintro e w' ⟨rfl, rfl⟩) | (go_at_call 34; refine h2.out.mono ?_; rintro e w' ⟨rfl, rfl⟩) | (go_at_call 18; refine h3.out.mono ?_; rintro e w' ⟨rfl, rfl⟩) | (go_at_call 36; refine h4.out.mono ?_; rintro e w' ⟨rfl, rfl⟩) | (go_at_call 35; refine h5.out.mono ?_; rintro e w' ⟨rfl, rfl⟩))
    go_ret
    exact ⟨rfl, same.out⟩
  · have F : putS n S m a l = setS S m (a, l) := by simp only [putS, E]; rw [if_pos ⟨trivial, by simpa using c5⟩]; simp
    rw [E, F]
    have d5 : decide ((S m).2 = l) = false := by simpa using c5
    rw [d5] at h5
    have h6 := hid ((set_all (num := m) (a := a) hA hB.tr hlv (by omega) hB.ord hs (by omega)).mono (fun e w' (h : _ ∧ _) => (⟨h.1, h.2.has hB hm (by omega) (by omega)⟩ : _ ∧ Has P g n cs (setS S m (a, l)) w')))
    generalize setS S m (a, l) = S2 at *
    generalize lastS S n = la at *
    generalize (lv + m) % 8 * 2 = r at *
    clear same hA hB hs hg V hn c1 d1 E F d2 c2 hm k1 k2 hL n62 hsh e5 q1 q2 q4 hb c5 d5 hlv hnl c4
    generalize l.length = ll at *
    go_enter Try.func12, Try.ntmps12
    go_wp2_with (first | (go_at_call 33; refine h1.out.mono ?_; rintro e w' ⟨rfl, rfl⟩) | (go_at_call 34; refine h2.out.mono ?_; rintro e w' ⟨rfl, rfl⟩) | (go_at_call 18; refine h3.out.mono ?_; rintro e w' ⟨rfl, rfl⟩) | (go_at_call 36; refine h4.out.mono ?_; rintro e w' ⟨rfl, rfl⟩) | (go_at_call 35; refine h5.out.mono ?_; rintro e w' ⟨rfl, rfl⟩) | (go_at_call 37; refine h6.out.mono ?_; rintro e w2 ⟨⟨v2, rfl⟩, hh⟩))
    go_ret
    exact ⟨rfl, hh⟩

end Go.Proofs.Ytaomhahmpbfjhaa

import Derived.Test.YtafickhhdemjnaaGreatDoorJ18
import Derived.BigQuiet
import Derived.Test.YtafickhhdemjnaaGreatDoorJ19
import Derived.WalkKit
import Derived.OwnWalkIn
import Derived.TacticsInMore
import Derived.LoopNIn
import Derived.LoopIn
namespace Go.Proofs.YtafickhhdemjnaaGreatDoor
open Go.RowKit Go.Sort
set_option linter.unusedVariables false

/-- An inner node has the greater of its two children's stamps. -/
def Ord (N : Nodes) (j : Nat) : Prop := (N j).1 = max (N (2 * j)).1 (N (2 * j + 1)).1

/-- On the way up: what is not above k is right. -/
def Mid (lv : Nat) (N0 N : Nodes) (k : Nat) : Prop :=
  (∀ j, lv ≤ j → N j = N0 j) ∧ ∀ j, 1 ≤ j → j < lv → (∀ i, 1 ≤ i → k / 2 ^ i ≠ j) → Ord N j

theorem Mid.start {lv num : Nat} {N : Nodes} {x : Nat × Value × List UInt8} (h : ∀ j, 1 ≤ j → j < lv → Ord N j) : Mid lv (upd N (lv + num) x) (upd N (lv + num) x) (lv + num) := by
  refine ⟨fun _ _ => rfl, fun j h1 h2 hi => ?_⟩
  have h3 := hi 1 (by omega)
  have e1 : ¬ j = lv + num := by omega
  have e2 : ¬ 2 * j = lv + num := by intro e; apply h3; omega
  have e3 : ¬ 2 * j + 1 = lv + num := by intro e; apply h3; omega
  have := h j h1 h2
  simpa only [Ord, upd, if_neg e1, if_neg e2, if_neg e3] using this

theorem Mid.step {lv k : Nat} {N0 N : Nodes} (h : Mid lv N0 N k) (hk : 2 ≤ k) (hk2 : k < 2 * lv) (v : Value) (l : List UInt8) : Mid lv N0 (upd N (k / 2) (max (N (2 * (k / 2))).1 (N (2 * (k / 2) + 1)).1, v, l)) (k / 2) := by
  refine ⟨fun j hj => ?_, fun j h1 h2 hi => ?_⟩
  · have e : ¬ j = k / 2 := by omega
    simp only [upd, if_neg e]
    exact h.1 j hj
  · have h3 := hi 1 (by omega)
    have e2 : ¬ 2 * j = k / 2 := by intro e; apply h3; omega
    have e3 : ¬ 2 * j + 1 = k / 2 := by intro e; apply h3; omega
    by_cases e : j = k / 2
    · subst e
      simp only [Ord, upd, if_true, if_neg e2, if_neg e3]
    · have := h.2 j h1 h2 (fun i hi' => by
        by_cases hi1 : i = 1
        · subst hi1; intro e'; apply e; omega
        · have h4 := hi (i - 1) (by omega)
          intro e'; apply h4
          rw [← e', Nat.div_div_eq_div_mul]
          congr 1
          rw [← Nat.pow_succ', show (i - 1).succ = i by omega])
      simp only [Ord, upd, if_neg e, if_neg e2, if_neg e3]
      exact this

theorem Mid.stop {lv : Nat} {N0 N : Nodes} (h : Mid lv N0 N 1) : ∀ j, 1 ≤ j → j < lv → Ord N j := fun j h1 h2 => h.2 j h1 h2 (fun i hi e => by
  have : 1 / 2 ^ i = 0 := Nat.div_eq_of_lt (Nat.one_lt_two_pow (by omega))
  omega)

theorem tdiv2 (k : Nat) : Int.tdiv (k : Int) 2 = ((k / 2 : Nat) : Int) := by
  rw [Int.tdiv_eq_ediv_of_nonneg (by omega)]; rfl

theorem wrap64_small (n : Nat) (h : n < 1000) : wrap64 (n : Int) = n := by unfold wrap64; omega
theorem max_if (a b : Nat) : (if a < b then (b : Int) else (a : Int)) = ((max a b : Nat) : Int) := by split <;> omega

/-- What a tree has become. -/
def Became (P : Pool) (g : Nat) (pre : List Value) (lv : Nat) (t : TypeId) (cs : List Comp) (N0 : Nodes) (w : World) : Prop :=
  ∃ Q qs M, All (poolC Q :: blkC g (treeL pre lv qs) t :: cs) w ∧ Tr Q qs M ∧ (∀ x ∈ P, x ∈ Q) ∧ (∀ j, 1 ≤ j → j < lv → Ord M j) ∧ ∀ j, lv ≤ j → M j = N0 j

set_option maxHeartbeats 4000000 in
theorem setLeaf_all {w : World} {g num lv : Nat} {pre : List Value} {ps : List Nat} {N : Nodes} {P : Pool} {t : TypeId} {cs : List Comp} {a : Nat} {v : Value} {l : List UInt8} (hA : All (poolC P :: blkC g (treeL pre lv ps) t :: cs) w) (hT : Tr P ps N) (hlv : lv ≤ 64) (hk : num < lv) (hd : DatP P v l) (hO : ∀ j, 1 ≤ j → j < lv → Ord N j) :
    Calls Tryz.prog 170 #[.pointer (some ⟨g, pre.length, none⟩), .int .i64 (num : Int), .agg #[.int .i64 (a : Int), v]] w fun e w' => (∃ v, e = .returned v) ∧ Became P g pre lv t cs (upd N (lv + num) (a, v, l)) w' := by
  obtain ⟨ao, n, c, rfl⟩ := hd.form
  have hg : w.heap[g]? = some (.cells (treeL pre lv ps).toArray t (0, 0)) := hA.blk (by simp)
  have hgw := (Array.getElem?_eq_some_iff.1 hg).1
  have hL : w.cell? ⟨g, pre.length, none⟩ = some (.int .i64 (lv : Int)) := by rw [cell_at hg]; simpa using treeL_leaves pre lv ps
  have hw1 : IntKind.i64.wrap ((lv : Int) + (num : Int)) = ((lv + num : Nat) : Int) := by rw [IntKind.wrap_i64]; omega
  have W1 := hid (write_all (k := lv + num) (a := a) (hA.alloc (.cells #[.int .i64 (a : Int), .slice ao n c] 186)) hT (by omega) hd)
  have M0 := hid (Mid.start (num := num) (x := (a, .slice ao n c, l)) hO)
  have B0 := hid (show 1 ≤ lv + num ∧ lv + num < 2 * lv by omega)
  have LV := hid hlv
  generalize upd N (lv + num) (a, .slice ao n c, l) = N0 at *
  generalize lv + num = k0 at *
  clear hA hT hlv hk hd hO hg
  obtain ⟨o, ho⟩ : ∃ o, Hid (o = pre.length) := ⟨_, hid rfl⟩
  rw [← ho.out] at hL W1 ⊢
  refine (callsIn_wide (n := 9)).1 (callsIn_of_wp Tryz.func170 rfl trivial ?_ rfl)
  simp only [Tryz.ntmps170, List.size_toArray, List.length_cons, List.length_nil, Nat.reduceAdd, Nat.reduceSub, Array.replicate_succ, Array.replicate_zero, List.push_toArray, List.append_toArray, List.nil_append, List.cons_append]
  gi_wp2
  refine ⟨trivial, (callsIn_wide.2 W1.out).mono ?_⟩
  rintro e w1 ⟨⟨v1, rfl⟩, P1, ps1, A1, T1, S1⟩
  gi_wp2
  gi_loopw [6] (fun p wr => ∃ k : Nat, p = .int .i64 k ∧ Hid (1 ≤ k ∧ k < 2 * lv) ∧ Hid (∃ Q qs M, All (poolC Q :: blkC g (treeL pre lv qs) t :: cs) wr ∧ Tr Q qs M ∧ (∀ x ∈ P, x ∈ Q) ∧ Mid lv N0 M k))
    (fun p _ => match p with | .int _ i => i.toNat | _ => 0)
  case atStart => exact ⟨k0, rfl, B0, hid ⟨_, _, _, A1, T1, S1, M0.out⟩⟩
  case round =>
    obtain ⟨k, rfl, hkb, hin⟩ := hrel
    by_cases hk1 : (k : Int) > 1
    · obtain ⟨Q, qs, M, hA, hT, hS, hM⟩ := hin.out
      have hkk := hkb.out
      have hlv := LV.out
      have d2 := tdiv2 k
      have hg : wr.heap[g]? = some (.cells (treeL pre lv qs).toArray t (0, 0)) := hA.blk (by simp)
      have V := hT.view (fun x hx => hA.poolIn hx) hg
      rw [← ho.out] at V
      obtain ⟨p1, n1, n2, n3, n4⟩ := V.node (2 * (k / 2)) (by omega)
      obtain ⟨p2, m1, m2, m3, m4⟩ := V.node (2 * (k / 2) + 1) (by omega)
      have H1 : ∀ d os, CallsIn Fence.wide 8 Tryz.prog 113 #[.pointer (some ⟨g, o, none⟩), .int .i64 ((2 * (k / 2) : Nat) : Int)] (grow (redrawn wr d) os) fun e w'' => e = .returned (.pointer (some ⟨p1, 2 * (k / 2) % 8 * 2, none⟩)) ∧ ∃ p : Regrown, w'' = grow (redrawn wr p.d) p.os := fun d os => CallsIn.regrown_of (callsIn_wide.2 ((node_any (by omega) (cell_regrown n1 d os)).mono (fun e w' h => ⟨h.1, by rw [h.2]; exact Below.refl _ _⟩)))
      have H2 : ∀ d os, CallsIn Fence.wide 8 Tryz.prog 113 #[.pointer (some ⟨g, o, none⟩), .int .i64 ((2 * (k / 2) + 1 : Nat) : Int)] (grow (redrawn wr d) os) fun e w'' => e = .returned (.pointer (some ⟨p2, (2 * (k / 2) + 1) % 8 * 2, none⟩)) ∧ ∃ p : Regrown, w'' = grow (redrawn wr p.d) p.os := fun d os => CallsIn.regrown_of (callsIn_wide.2 ((node_any (by omega) (cell_regrown m1 d os)).mono (fun e w' h => ⟨h.1, by rw [h.2]; exact Below.refl _ _⟩)))
      have WW := fun (w2 : World) (hB : Below wr.heap.size wr w2) => (write_all (k := k / 2) (a := max (M (2 * (k / 2))).1 (M (2 * (k / 2) + 1)).1) (v := .slice none 0 0) (l := []) (hA.later hB) hT (by omega) (Or.inl ⟨rfl, rfl⟩))
      rw [← ho.out] at WW
      have WW := hid WW
      have E0 : IntKind.i64.wrap ((k / 2 : Nat) : Int) = ((k / 2 : Nat) : Int) := by rw [IntKind.wrap_i64]; omega
      have E00 : wrap64 ((k / 2 : Nat) : Int) = ((k / 2 : Nat) : Int) := wrap64_small _ (by omega)
      have E1 : IntKind.i64.wrap (2 * ((k / 2 : Nat) : Int)) = ((2 * (k / 2) : Nat) : Int) := by rw [IntKind.wrap_i64]; omega
      have E2 : IntKind.i64.wrap (((2 * (k / 2) : Nat) : Int) + 1) = ((2 * (k / 2) + 1 : Nat) : Int) := by rw [IntKind.wrap_i64]; omega
      have MM := hid (hM.step (by omega) hkk.2 (.slice none 0 0) [])
      have KB := hid (show 1 ≤ k / 2 ∧ k / 2 < 2 * lv ∧ k / 2 < k by omega)
      have mxe := hid (max_if (M (2 * (k / 2))).1 (M (2 * (k / 2) + 1)).1)
      have n2 := cell_regrown n2
      have m2 := cell_regrown m2
      have SS := hid hS
      generalize upd M (k / 2) (max (M (2 * (k / 2))).1 (M (2 * (k / 2) + 1)).1, .slice none 0 0, []) = M2 at *
      generalize max (M (2 * (k / 2))).1 (M (2 * (k / 2) + 1)).1 = mx at *
      generalize (M (2 * (k / 2))).1 = x1 at *
      generalize (M (2 * (k / 2) + 1)).1 = x2 at *
      generalize 2 * (k / 2) % 8 * 2 = r1 at *
      generalize (2 * (k / 2) + 1) % 8 * 2 = r2 at *
      generalize 2 * (k / 2) + 1 = k2 at *
      generalize 2 * (k / 2) = k1 at *
      generalize k / 2 = kh at *
      clear hA hT hS hM V n1 n3 n4 m1 m3 m4 hg hkb hin hkk W1 A1 T1 S1 M0 hL hlv
      have wfa : ∀ f, Fence.wide.fn f = True := fun _ => rfl
      gi_wp2
      refine last_in rfl rfl (by kernel_rfl) (by kernel_rfl) (by kernel_rfl) rfl ?_
      simp only [nopLast, nopOf, List.dropLast, List.getLast_cons_cons, List.getLast_singleton]
      repeat (quiet_step_in (first | with_reducible exact H1 _ _ | with_reducible exact H2 _ _))
      refine wpQuietIn_nil ?_
      intro w2 hB2
      clear wfa H1 H2 n2 m2
      simp only [mxe.out]
      gi_wp2
      refine ⟨trivial, (callsIn_wide.2 (WW.out w2 hB2)).mono ?_⟩
      rintro e w3 ⟨⟨v3, rfl⟩, Q3, qs3, A3, T3, S3⟩
      have HF : Hid (∃ Q qs M, All (poolC Q :: blkC g (treeL pre lv qs) t :: cs) w3 ∧ Tr Q qs M ∧ (∀ x ∈ P, x ∈ Q) ∧ Mid lv N0 M kh) := hid ⟨_, _, _, A3, T3, fun x hx => S3 x (SS.out x hx), MM.out⟩
      clear A3 T3 S3 WW
      clear hB2 SS MM mxe E1 E2 E0 E00
      gi_wp2
      exact ⟨⟨kh, rfl, hid ⟨KB.out.1, KB.out.2.1⟩, HF⟩, by have := KB.out; simp only [Int.toNat_natCast]; omega⟩
    · have k1 : Hid (k = 1) := hid (by have := hkb.out; omega)
      obtain ⟨Q, qs, M, hA, hT, hS, hM⟩ := hin.out
      have FIN := hid (show Became P g pre lv t cs N0 wr from ⟨Q, qs, M, hA, hT, hS, by rw [k1.out] at hM; exact hM.stop, hM.1⟩)
      clear hA hT hS hM hin W1 A1 T1 S1 M0 hL hkb B0 k1
      gi_wp2
      go_end0
      exact ⟨⟨_, rfl⟩, FIN.out⟩

end Go.Proofs.YtafickhhdemjnaaGreatDoor

import Derived.Test.YteloaggebkbeeaaDoorRC2
import Derived.Test.YteloaggebkbeeaaDoorPx16
import Derived.Test.YteloaggebkbeeaaDoorPx9nq
import Derived.Test.YteloaggebkbeeaaDoorJ20
namespace Go.Proofs.YteloaggebkbeeaaDoor
open Go.RowKit
set_option linter.unusedVariables false

set_option maxRecDepth 1000000 in
theorem rcheck_out {w : World} {k : Int} (h : k < 1 ∨ 8 < k) (nm tx : ByteArray) (n m : Int) : Calls Tryd.prog 11 #[opV k nm tx n m] w fun e w' => e = .returned (.int .i64 50) ∧ Below w.heap.size w w' := by
  by_cases h1 : k < 1
  · have e1 : decide (k < 1) = true := by simpa using h1
    clear h
    go_enter Tryd.func11, Tryd.ntmps11
    go_wp2
    go_ret
    exact ⟨rfl, ba _ _⟩
  · have e1 : decide (k < 1) = false := by simpa using h1
    have e2 : decide (8 < k) = true := by simp; omega
    clear h
    go_enter Tryd.func11, Tryd.ntmps11
    go_wp2
    go_ret
    exact ⟨rfl, ba _ _⟩

theorem rcheck_any {w : World} (k : Int) (nm tx : ByteArray) (n m : Int) : Calls Tryd.prog 11 #[opV k nm tx n m] w fun e w' => e = .returned (.int .i64 (chkA k nm.size tx.size n m)) ∧ Below w.heap.size w w' := by
  by_cases h : k < 1 ∨ 8 < k
  · rw [chkA_out h]
    exact rcheck_out h nm tx n m
  · rw [chkA_in (by omega) (by omega)]
    obtain rfl | rfl | rfl | rfl | rfl | rfl | rfl | rfl : k = 1 ∨ k = 2 ∨ k = 3 ∨ k = 4 ∨ k = 5 ∨ k = 6 ∨ k = 7 ∨ k = 8 := by omega
    · exact rc1 nm tx n m
    · exact rc2 nm tx n m
    · exact rc3 nm tx n m
    · exact rc4 nm tx n m
    · exact rc5 nm tx n m
    · exact rc6 nm tx n m
    · exact rc7 nm tx n m
    · exact rc8 nm tx n m

end Go.Proofs.YteloaggebkbeeaaDoor

namespace Go.Proofs.YteloaggebkbeeaaDoor
open Go.RowKit
set_option linter.unusedVariables false

/-- A tick, whatever runs out. -/
theorem tick_any {P : Nat} {x : Px} {b m n1 n2 : Int} {cs : List Comp} {w : World} (h : All (pxL P x b m n1 n2 ++ cs) w) (hr : x.rq.okL) (hq : x.qu.okL) (h1 : 1 ≤ n1) (h2 : n1 ≤ m) (h3 : m ≤ 1024) (g1 : 1 ≤ n2) (g2 : n2 ≤ m) (N : Nat) (hN : x.n = (N : Int)) (hN7 : 1 ≤ N ∧ N ≤ 7) (hw : 0 ≤ x.who) (hw2 : x.who ≤ 7) (ha : 0 ≤ x.again) (ha2 : x.again ≤ 4611686018427387904) :
    Calls Tryd.prog 14 #[.pointer (some ⟨P, 0, none⟩)] w fun e w' => ∃ v, e = .returned v ∧ All (msC v (sayR x N ++ sayQ x) :: (pxL P (x.tick n1 n2) b m (x.rq.now n1 m) (x.qu.now n2 m) ++ cs)) w' := by
  cases dr : x.rq.due <;> cases dq : x.qu.due
  · have e1 : sayR x N ++ sayQ x = [] := by simp [sayR, sayQ, dr, dq]
    have e2 : x.tick n1 n2 = { x with rq := x.rq.tick n1, qu := x.qu.tick n2 } := by simp [Px.tick, dq]
    rw [e1, e2]
    exact tick_nn h hr hq h1 h2 h3 g1 g2 N hN hN7 hw hw2 ha ha2 dr dq
  · have e1 : sayR x N ++ sayQ x = [] ++ [asM x.id ((x.who + x.again).tmod x.n) x.least x.qu] := by simp [sayR, sayQ, dr, dq]
    have e2 : x.tick n1 n2 = { x with rq := x.rq.tick n1, qu := x.qu.tick n2, again := x.again + 1 } := by simp [Px.tick, dq]
    rw [e1, e2]
    exact tick_nq h hr hq h1 h2 h3 g1 g2 N hN hN7 hw hw2 ha ha2 dr dq
  · have e1 : sayR x N ++ sayQ x = again x N := by simp [sayR, sayQ, dr, dq]
    have e2 : x.tick n1 n2 = { x with rq := x.rq.tick n1, qu := x.qu.tick n2 } := by simp [Px.tick, dq]
    rw [e1, e2]
    exact tick_rn h hr hq h1 h2 h3 g1 g2 N hN hN7 hw hw2 ha ha2 dr dq
  · have e1 : sayR x N ++ sayQ x = again x N ++ [asM x.id ((x.who + x.again).tmod x.n) x.least x.qu] := by simp [sayR, sayQ, dr, dq]
    have e2 : x.tick n1 n2 = { x with rq := x.rq.tick n1, qu := x.qu.tick n2, again := x.again + 1 } := by simp [Px.tick, dq]
    rw [e1, e2]
    exact tick_rq h hr hq h1 h2 h3 g1 g2 N hN hN7 hw hw2 ha ha2 dr dq
/-- What holds while it is ticked. -/
structure Inv (x : Px) (N : Nat) (who : Int) (tm : Nat) (m n1 n2 quiet : Int) (y : Wt) : Prop where
  n : x.n = (N : Int)
  id : x.id = 0
  rw : x.rq.wts = true
  rl : 1 ≤ x.rq.left
  q : quiet + x.rq.left ≤ m
  q0 : 0 ≤ quiet
  s : ∀ f t, rqM f t x.rq = rqM f t y
  qw : x.qu.wts = true
  ql : 1 ≤ x.qu.left ∧ x.qu.left ≤ m
  qn : x.qu.num = 1
  w : x.who = who
  a : x.again = (tm : Int)
  b1 : 1 ≤ n1 ∧ n1 ≤ m
  b2 : 1 ≤ n2 ∧ n2 ≤ m
def bq (x : Px) : Nat := if x.qu.due then 1 else 0
theorem Wt.now_in {t : Wt} {n m : Int} (h : 1 ≤ n ∧ n ≤ m) : 1 ≤ t.now n m ∧ t.now n m ≤ m := by
  unfold Wt.now
  split
  · exact ⟨by rw [Int.le_min]; omega, Int.min_le_right _ _⟩
  · exact h
theorem Inv.step {x : Px} {N tm : Nat} {who m n1 n2 quiet : Int} {y : Wt} (h : Inv x N who tm m n1 n2 quiet y) : Inv (x.tick n1 n2) N who (tm + bq x) m (x.rq.now n1 m) (x.qu.now n2 m) (if x.rq.due then 0 else quiet + 1) y ∧ quiet + 1 ≤ m := by
  have hrl := h.rl
  have hq := h.q
  have hq0 := h.q0
  refine ⟨⟨h.n, h.id, ?_, ?_, ?_, ?_, fun f t => ?_, ?_, ?_, ?_, h.w, ?_, Wt.now_in h.b1, Wt.now_in h.b2⟩, by omega⟩
  · show (x.rq.tick n1).wts = true
    unfold Wt.tick; rw [h.rw]; simp only [if_true]; split <;> rfl
  · show 1 ≤ (x.rq.tick n1).left
    unfold Wt.tick; rw [h.rw]; simp only [if_true]; split
    · exact h.b1.1
    · show 1 ≤ x.rq.left - 1; omega
  · show _ + (x.rq.tick n1).left ≤ m
    unfold Wt.tick Wt.due; rw [h.rw]; simp only [if_true, Bool.true_and]
    by_cases hl : x.rq.left = 1
    · simp only [hl, decide_true, if_true]; have := h.b1; omega
    · simp only [hl, decide_false, if_false, Bool.false_eq_true]; omega
  · split <;> omega
  · show rqM f t (x.rq.tick n1) = _
    rw [rqM_tick]; exact h.s f t
  · show (x.qu.tick n2).wts = true
    unfold Wt.tick; rw [h.qw]; simp only [if_true]; split <;> rfl
  · show 1 ≤ (x.qu.tick n2).left ∧ (x.qu.tick n2).left ≤ m
    have := h.ql
    unfold Wt.tick; rw [h.qw]; simp only [if_true]; split
    · exact h.b2
    · show 1 ≤ x.qu.left - 1 ∧ x.qu.left - 1 ≤ m; omega
  · show (x.qu.tick n2).num = 1
    unfold Wt.tick; rw [h.qw]; simp only [if_true]; split <;> exact h.qn
  · show (if x.qu.due then x.again + 1 else x.again) = ((tm + bq x : Nat) : Int)
    have ha := h.a
    unfold bq
    split <;> omega
/-- Those that were asked are marked. -/
def Heard (hs : List Bool) (who : Int) (tm N : Nat) : Prop := hs.length = N ∧ ∀ j : Nat, j < tm → hs[((who + (j : Int)).tmod (N : Int)).toNat]? = some true
theorem Heard.set {hs : List Bool} {who : Int} {tm N : Nat} (h : Heard hs who tm N) (hw : 0 ≤ who) (hN : 1 ≤ N) : Heard (hs.set ((who + (tm : Int)).tmod (N : Int)).toNat true) who (tm + 1) N := by
  refine ⟨by rw [List.length_set]; exact h.1, fun j hj => ?_⟩
  have hlt : ((who + (j : Int)).tmod (N : Int)).toNat < hs.length := by
    rw [h.1]
    have h1 := Int.tmod_nonneg (N : Int) (show 0 ≤ who + (j : Int) by omega)
    have h2 := Int.tmod_lt_of_pos (who + (j : Int)) (show 0 < (N : Int) by omega)
    omega
  rw [List.getElem?_set]
  split
  · rw [if_pos (by omega)]
  · by_cases hjt : j < tm
    · exact h.2 j hjt
    · have : j = tm := by omega
      subst this
      simp_all
theorem Heard.all {hs : List Bool} {who : Int} {tm N : Nat} (h : Heard hs who tm N) (hw : 0 ≤ who) (hwN : who < N) (htm : N ≤ tm) (i : Nat) (hi : i < N) : hs[i]? = some true := by
  by_cases hc : who ≤ i
  · have := h.2 (i - who.toNat) (by omega)
    rw [show who + ((i - who.toNat : Nat) : Int) = (i : Int) by omega, Int.tmod_eq_of_lt (by omega) (by omega)] at this
    simpa using this
  · have := h.2 (i + N - who.toNat) (by omega)
    rw [show who + ((i + N - who.toNat : Nat) : Int) = (i : Int) + (N : Int) * 1 by omega, Int.tmod_eq_emod_of_nonneg (by omega), Int.add_mul_emod_self_left, Int.emod_eq_of_lt (by omega) (by omega)] at this
    simpa using this
end Go.Proofs.YteloaggebkbeeaaDoor

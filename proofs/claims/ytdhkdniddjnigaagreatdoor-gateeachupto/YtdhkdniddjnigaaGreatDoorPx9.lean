import Derived.Test.YtdhkdniddjnigaaGreatDoorPx8
namespace Go.Proofs.YtdhkdniddjnigaaGreatDoor
open Go.RowKit
set_option linter.unusedVariables false

def Wt.due (t : Wt) : Bool := t.wts && decide (t.left = 1)
def Wt.tick (t : Wt) (n : Int) : Wt := if t.wts then (if t.left = 1 then { t with left := n } else { t with left := t.left - 1 }) else t
def Wt.now (t : Wt) (n m : Int) : Int := if t.due then min (2 * n) m else n
/-- Ticks that are left are in bounds. -/
def Wt.okL (t : Wt) : Prop := t.wts = true → 1 ≤ t.left ∧ t.left ≤ 1024

theorem tick33R {P : Nat} {x : Px} {b m n1 n2 : Int} {cs : List Comp} {w : World} (h : All (pxL P x b m n1 n2 ++ cs) w) (hl : x.rq.okL) (h1 : 1 ≤ n1) (h2 : n1 ≤ m) (h3 : m ≤ 1024) : Calls Tryz.prog 77 #[.pointer (some ⟨P, 4, none⟩)] w fun e w' => e = .returned (.bool x.rq.due) ∧ All (pxL P { x with rq := x.rq.tick n1 } b m (x.rq.now n1 m) n2 ++ cs) w' := by
  by_cases hw : x.rq.wts = true
  · by_cases hl1 : x.rq.left = 1
    · have ed : x.rq.due = true := by simp [Wt.due, hw, hl1]
      have en : x.rq.now n1 m = min (2 * n1) m := by simp [Wt.now, ed]
      have et : x.rq.tick n1 = { x.rq with left := n1 } := by simp [Wt.tick, hw, hl1]
      rw [ed, en, et]
      exact tickR_yes h hw hl1 h1 h2 h3
    · have hb := hl hw
      have ed : x.rq.due = false := by simp [Wt.due, hl1]
      have en : x.rq.now n1 m = n1 := by simp [Wt.now, ed]
      have et : x.rq.tick n1 = { x.rq with left := x.rq.left - 1 } := by simp [Wt.tick, hw, hl1]
      rw [ed, en, et]
      exact tickR_less h hw (by omega) hb.2
  · have hw : x.rq.wts = false := by simpa using hw
    have ed : x.rq.due = false := by simp [Wt.due, hw]
    have en : x.rq.now n1 m = n1 := by simp [Wt.now, ed]
    have et : x.rq.tick n1 = x.rq := by simp [Wt.tick, hw]
    rw [ed, en, et]
    refine (tickR_no h hw).mono ?_
    rintro e w' ⟨h1, rfl⟩
    exact ⟨h1, h⟩

theorem tick33Q {P : Nat} {x : Px} {b m n1 n2 : Int} {cs : List Comp} {w : World} (h : All (pxL P x b m n1 n2 ++ cs) w) (hl : x.qu.okL) (h1 : 1 ≤ n2) (h2 : n2 ≤ m) (h3 : m ≤ 1024) : Calls Tryz.prog 77 #[.pointer (some ⟨P, 13, none⟩)] w fun e w' => e = .returned (.bool x.qu.due) ∧ All (pxL P { x with qu := x.qu.tick n2 } b m n1 (x.qu.now n2 m) ++ cs) w' := by
  by_cases hw : x.qu.wts = true
  · by_cases hl1 : x.qu.left = 1
    · have ed : x.qu.due = true := by simp [Wt.due, hw, hl1]
      have en : x.qu.now n2 m = min (2 * n2) m := by simp [Wt.now, ed]
      have et : x.qu.tick n2 = { x.qu with left := n2 } := by simp [Wt.tick, hw, hl1]
      rw [ed, en, et]
      exact tickQ_yes h hw hl1 h1 h2 h3
    · have hb := hl hw
      have ed : x.qu.due = false := by simp [Wt.due, hl1]
      have en : x.qu.now n2 m = n2 := by simp [Wt.now, ed]
      have et : x.qu.tick n2 = { x.qu with left := x.qu.left - 1 } := by simp [Wt.tick, hw, hl1]
      rw [ed, en, et]
      exact tickQ_less h hw (by omega) hb.2
  · have hw : x.qu.wts = false := by simpa using hw
    have ed : x.qu.due = false := by simp [Wt.due, hw]
    have en : x.qu.now n2 m = n2 := by simp [Wt.now, ed]
    have et : x.qu.tick n2 = x.qu := by simp [Wt.tick, hw]
    rw [ed, en, et]
    refine (tickQ_no h hw).mono ?_
    rintro e w' ⟨h1, rfl⟩
    exact ⟨h1, h⟩

/-- The requests that are said again. -/
def again (x : Px) (k : Nat) : List Ms := (List.range k).map fun i : Nat => rqM x.id i x.rq
theorem again_len (x : Px) (k : Nat) : (again x k).length = k := by simp [again]
theorem again_succ (x : Px) (k : Nat) : again x (k + 1) = again x k ++ [rqM x.id k x.rq] := by simp [again, List.range_succ]
def sayR (x : Px) (N : Nat) : List Ms := if x.rq.due then again x N else []
def sayQ (x : Px) : List Ms := if x.qu.due then [asM x.id ((x.who + x.again).tmod x.n) x.least x.qu] else []
def Px.tick (x : Px) (n1 n2 : Int) : Px := { x with rq := x.rq.tick n1, qu := x.qu.tick n2, again := if x.qu.due then x.again + 1 else x.again }
theorem rqM_tick (f t n : Int) (x : Wt) : rqM f t (x.tick n) = rqM f t x := by
  unfold Wt.tick
  split
  · split <;> rfl
  · rfl
theorem asM_tick (f t l n : Int) (x : Wt) : asM f t l (x.tick n) = asM f t l x := by
  unfold Wt.tick
  split
  · split <;> rfl
  · rfl
end Go.Proofs.YtdhkdniddjnigaaGreatDoor

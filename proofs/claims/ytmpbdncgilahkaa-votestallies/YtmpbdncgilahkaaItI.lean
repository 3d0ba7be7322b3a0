import Derived.Test.YtmpbdncgilahkaaTalI
import Derived.RangeFuncBox
import Derived.RangeFuncLeaves
import Derived.RangeFuncCalls
import Derived.Shelf.Abstract
import Derived.WalkKit
import Derived.OwnWalkIn
import Derived.TacticsInMore
import Derived.LoopNIn
import Derived.LoopIn
namespace Go.Proofs.Ytmpbdncgilahkaa
open Go.RowKit Go.Shelf
attribute [local go_sem] Oper.semAt_some
set_option linter.unusedVariables false

/-- Who has said what, rising. -/
def said {α : Type} : Nat → List (Option α) → List (Int × α)
  | _, [] => []
  | i, none :: t => said (i + 1) t
  | i, some v :: t => ((i : Int), v) :: said (i + 1) t
theorem said_append {α : Type} : ∀ (i : Nat) (a b : List (Option α)), said i (a ++ b) = said i a ++ said (i + a.length) b
  | i, [], b => by simp [said]
  | i, none :: t, b => by simp [said, said_append (i + 1) t b, Nat.add_assoc, Nat.add_comm 1]
  | i, some v :: t, b => by simp [said, said_append (i + 1) t b, Nat.add_assoc, Nat.add_comm 1]
theorem said_take {α : Type} {ws : List (Option α)} {k : Nat} {o : Option α} (h : ws[k]? = some o) : said 0 (ws.take (k + 1)) = said 0 (ws.take k) ++ said k [o] := by
  have hk := (List.getElem?_eq_some_iff.1 h).1
  rw [List.take_add_one, h, said_append]
  simp [Nat.min_eq_left (Nat.le_of_lt hk)]
theorem said_len {α : Type} : ∀ (i : Nat) (ws : List (Option α)), (said i ws).length ≤ ws.length
  | _, [] => by simp [said]
  | i, none :: t => by have := said_len (i + 1) t; simp [said]; omega
  | i, some v :: t => by have := said_len (i + 1) t; simp [said]; omega

theorem said_prefix {α : Type} (ws : List (Option α)) (k : Nat) : said 0 (ws.take k) <+: said 0 ws := by
  have h := said_append 0 (ws.take k) (ws.drop k)
  rw [List.take_append_drop] at h
  exact ⟨_, h.symm⟩

theorem grown2 (W : World) (o : Obj) (row : Option Nat) : W.grownBy (W.alloc o) row := World.grownBy_alloc W o row

set_option maxRecDepth 1000000 in
theorem idxI0 (w : World) (y0 y1 y2 y3 y4 y5 y6 : Int) (b0 b1 b2 b3 b4 b5 b6 : Bool) : Sem.run Try.prog (Instr.index 71 (Value.agg #[encI y0, .bool b0, encI y1, .bool b1, encI y2, .bool b2, encI y3, .bool b3, encI y4, .bool b4, encI y5, .bool b5, encI y6, .bool b6]) (.int .i64 0)) w = .ok (.agg #[encI y0, .bool b0]) w := by
  simp only [Instr.index, go_sem]
  rfl

set_option maxRecDepth 1000000 in
theorem idxI1 (w : World) (y0 y1 y2 y3 y4 y5 y6 : Int) (b0 b1 b2 b3 b4 b5 b6 : Bool) : Sem.run Try.prog (Instr.index 71 (Value.agg #[encI y0, .bool b0, encI y1, .bool b1, encI y2, .bool b2, encI y3, .bool b3, encI y4, .bool b4, encI y5, .bool b5, encI y6, .bool b6]) (.int .i64 1)) w = .ok (.agg #[encI y1, .bool b1]) w := by
  simp only [Instr.index, go_sem]
  rfl

set_option maxRecDepth 1000000 in
theorem idxI2 (w : World) (y0 y1 y2 y3 y4 y5 y6 : Int) (b0 b1 b2 b3 b4 b5 b6 : Bool) : Sem.run Try.prog (Instr.index 71 (Value.agg #[encI y0, .bool b0, encI y1, .bool b1, encI y2, .bool b2, encI y3, .bool b3, encI y4, .bool b4, encI y5, .bool b5, encI y6, .bool b6]) (.int .i64 2)) w = .ok (.agg #[encI y2, .bool b2]) w := by
  simp only [Instr.index, go_sem]
  rfl

set_option maxRecDepth 1000000 in
theorem idxI3 (w : World) (y0 y1 y2 y3 y4 y5 y6 : Int) (b0 b1 b2 b3 b4 b5 b6 : Bool) : Sem.run Try.prog (Instr.index 71 (Value.agg #[encI y0, .bool b0, encI y1, .bool b1, encI y2, .bool b2, encI y3, .bool b3, encI y4, .bool b4, encI y5, .bool b5, encI y6, .bool b6]) (.int .i64 3)) w = .ok (.agg #[encI y3, .bool b3]) w := by
  simp only [Instr.index, go_sem]
  rfl

set_option maxRecDepth 1000000 in
theorem idxI4 (w : World) (y0 y1 y2 y3 y4 y5 y6 : Int) (b0 b1 b2 b3 b4 b5 b6 : Bool) : Sem.run Try.prog (Instr.index 71 (Value.agg #[encI y0, .bool b0, encI y1, .bool b1, encI y2, .bool b2, encI y3, .bool b3, encI y4, .bool b4, encI y5, .bool b5, encI y6, .bool b6]) (.int .i64 4)) w = .ok (.agg #[encI y4, .bool b4]) w := by
  simp only [Instr.index, go_sem]
  rfl

set_option maxRecDepth 1000000 in
theorem idxI5 (w : World) (y0 y1 y2 y3 y4 y5 y6 : Int) (b0 b1 b2 b3 b4 b5 b6 : Bool) : Sem.run Try.prog (Instr.index 71 (Value.agg #[encI y0, .bool b0, encI y1, .bool b1, encI y2, .bool b2, encI y3, .bool b3, encI y4, .bool b4, encI y5, .bool b5, encI y6, .bool b6]) (.int .i64 5)) w = .ok (.agg #[encI y5, .bool b5]) w := by
  simp only [Instr.index, go_sem]
  rfl

set_option maxRecDepth 1000000 in
theorem idxI6 (w : World) (y0 y1 y2 y3 y4 y5 y6 : Int) (b0 b1 b2 b3 b4 b5 b6 : Bool) : Sem.run Try.prog (Instr.index 71 (Value.agg #[encI y0, .bool b0, encI y1, .bool b1, encI y2, .bool b2, encI y3, .bool b3, encI y4, .bool b4, encI y5, .bool b5, encI y6, .bool b6]) (.int .i64 6)) w = .ok (.agg #[encI y6, .bool b6]) w := by
  simp only [Instr.index, go_sem]
  rfl

set_option maxRecDepth 1000000 in
set_option maxHeartbeats 1000000 in
theorem itI (n : Nat) (hn : 1 ≤ n) (l Bn P : Nat) (m : Int) (ws : List (Option Int)) (J Jx : List (Int × Int) → World → Prop) (W : World)
    (hJ : AbidesFrom W.heap.size J) (hJx : AbidesFrom W.heap.size Jx)
    (hY : ∀ pre x W1, J pre W1 → pre.length < (said 0 ws).length → YieldAt Fence.wide (n - 1) Try.prog l #[.int .i64 x.1, encI x.2] W1 fun e W' =>
      (e = .returned (.bool true) ∧ J (pre ++ [x]) W' ∧ True) ∨ (e = .returned (.bool false) ∧ Jx (pre ++ [x]) W'))
    (hBn : W.cell? ⟨Bn, 0, none⟩ = some (.pointer (some ⟨P, 0, none⟩))) (hT : TalI W P m ws) (h0 : J [] W) :
    CallsIn Fence.wide n Try.prog 60 #[.func (.yield l) #[] #[], .pointer (some ⟨Bn, 0, none⟩)] W fun e W' => (∃ v, e = .returned v) ∧
      ((∃ ys, ys = said 0 ws ∧ J ys W') ∨ (∃ pre, pre <+: said 0 ws ∧ Jx pre W')) := by
  have hlen := hT.len
  obtain ⟨x0, x1, x2, x3, x4, x5, x6, rfl⟩ : ∃ x0 x1 x2 x3 x4 x5 x6, ws = [x0, x1, x2, x3, x4, x5, x6] := by
    match ws, hlen with
    | [x0, x1, x2, x3, x4, x5, x6], _ => exact ⟨_, _, _, _, _, _, _, rfl⟩
  obtain ⟨y0, b0, E0, F0⟩ : ∃ y b, Hid (x0 = if b then some y else none) ∧ Hid (x0.getD 0 = y ∧ x0.isSome = b) := ⟨_, _, hid (by cases x0 <;> rfl), hid ⟨rfl, rfl⟩⟩
  have p0 : W.cell? ⟨P, 1, none⟩ = some (encI y0) := (hT.cw (k := 0) rfl).trans (by rw [← F0.out.1]; cases x0 <;> rfl)
  have q0 : W.cell? ⟨P, 2, none⟩ = some (.bool b0) := (hT.cb (k := 0) rfl).trans (by rw [← F0.out.2])
  obtain ⟨y1, b1, E1, F1⟩ : ∃ y b, Hid (x1 = if b then some y else none) ∧ Hid (x1.getD 0 = y ∧ x1.isSome = b) := ⟨_, _, hid (by cases x1 <;> rfl), hid ⟨rfl, rfl⟩⟩
  have p1 : W.cell? ⟨P, 3, none⟩ = some (encI y1) := (hT.cw (k := 1) rfl).trans (by rw [← F1.out.1]; cases x1 <;> rfl)
  have q1 : W.cell? ⟨P, 4, none⟩ = some (.bool b1) := (hT.cb (k := 1) rfl).trans (by rw [← F1.out.2])
  obtain ⟨y2, b2, E2, F2⟩ : ∃ y b, Hid (x2 = if b then some y else none) ∧ Hid (x2.getD 0 = y ∧ x2.isSome = b) := ⟨_, _, hid (by cases x2 <;> rfl), hid ⟨rfl, rfl⟩⟩
  have p2 : W.cell? ⟨P, 5, none⟩ = some (encI y2) := (hT.cw (k := 2) rfl).trans (by rw [← F2.out.1]; cases x2 <;> rfl)
  have q2 : W.cell? ⟨P, 6, none⟩ = some (.bool b2) := (hT.cb (k := 2) rfl).trans (by rw [← F2.out.2])
  obtain ⟨y3, b3, E3, F3⟩ : ∃ y b, Hid (x3 = if b then some y else none) ∧ Hid (x3.getD 0 = y ∧ x3.isSome = b) := ⟨_, _, hid (by cases x3 <;> rfl), hid ⟨rfl, rfl⟩⟩
  have p3 : W.cell? ⟨P, 7, none⟩ = some (encI y3) := (hT.cw (k := 3) rfl).trans (by rw [← F3.out.1]; cases x3 <;> rfl)
  have q3 : W.cell? ⟨P, 8, none⟩ = some (.bool b3) := (hT.cb (k := 3) rfl).trans (by rw [← F3.out.2])
  obtain ⟨y4, b4, E4, F4⟩ : ∃ y b, Hid (x4 = if b then some y else none) ∧ Hid (x4.getD 0 = y ∧ x4.isSome = b) := ⟨_, _, hid (by cases x4 <;> rfl), hid ⟨rfl, rfl⟩⟩
  have p4 : W.cell? ⟨P, 9, none⟩ = some (encI y4) := (hT.cw (k := 4) rfl).trans (by rw [← F4.out.1]; cases x4 <;> rfl)
  have q4 : W.cell? ⟨P, 10, none⟩ = some (.bool b4) := (hT.cb (k := 4) rfl).trans (by rw [← F4.out.2])
  obtain ⟨y5, b5, E5, F5⟩ : ∃ y b, Hid (x5 = if b then some y else none) ∧ Hid (x5.getD 0 = y ∧ x5.isSome = b) := ⟨_, _, hid (by cases x5 <;> rfl), hid ⟨rfl, rfl⟩⟩
  have p5 : W.cell? ⟨P, 11, none⟩ = some (encI y5) := (hT.cw (k := 5) rfl).trans (by rw [← F5.out.1]; cases x5 <;> rfl)
  have q5 : W.cell? ⟨P, 12, none⟩ = some (.bool b5) := (hT.cb (k := 5) rfl).trans (by rw [← F5.out.2])
  obtain ⟨y6, b6, E6, F6⟩ : ∃ y b, Hid (x6 = if b then some y else none) ∧ Hid (x6.getD 0 = y ∧ x6.isSome = b) := ⟨_, _, hid (by cases x6 <;> rfl), hid ⟨rfl, rfl⟩⟩
  have p6 : W.cell? ⟨P, 13, none⟩ = some (encI y6) := (hT.cw (k := 6) rfl).trans (by rw [← F6.out.1]; cases x6 <;> rfl)
  have q6 : W.cell? ⟨P, 14, none⟩ = some (.bool b6) := (hT.cb (k := 6) rfl).trans (by rw [← F6.out.2])
  have Y := hid hY
  have A := hid hJ
  have J1 : Hid (J [] (W.alloc (.cells #[encI y0, .bool b0, encI y1, .bool b1, encI y2, .bool b2, encI y3, .bool b3, encI y4, .bool b4, encI y5, .bool b5, encI y6, .bool b6] 71))) := hid (hJ [] W _ none h0 (World.grownBy_alloc W _ none) (fun r e => by cases e))
  clear hY hJ hJx h0 hT hlen
  refine callsIn_of_wp Try.func60 rfl trivial ?_ rfl
  simp only [Try.ntmps60, List.size_toArray, List.length_cons, List.length_nil, Nat.reduceAdd, Nat.reduceSub, Array.replicate_succ, Array.replicate_zero, List.push_toArray, List.append_toArray, List.nil_append, List.cons_append]
  gi_wp2
  gi_loopw [11] (fun p wr => ∃ k : Nat, k ≤ 7 ∧ p = .int .i64 k ∧ Hid (J (said 0 (List.take k [x0, x1, x2, x3, x4, x5, x6])) wr))
    (fun p _ => match p with | .int _ i => (7 - i).toNat | _ => 0)
  case atStart => exact ⟨0, by omega, rfl, J1⟩
  case round =>
    obtain ⟨k, hk, rfl, hJr⟩ := hrel
    have I0 := idxI0; have I1 := idxI1; have I2 := idxI2; have I3 := idxI3; have I4 := idxI4; have I5 := idxI5; have I6 := idxI6
    clear J1 p0 q0 p1 q1 p2 q2 p3 q3 p4 q4 p5 q5 p6 q6 hBn
    obtain rfl | rfl | rfl | rfl | rfl | rfl | rfl | rfl : k = 0 ∨ k = 1 ∨ k = 2 ∨ k = 3 ∨ k = 4 ∨ k = 5 ∨ k = 6 ∨ k = 7 := by omega
    · cases b0 with
      | false =>
        have J3 := hid (A.out _ wr (wr.alloc (.cells #[encI y0, .bool false] 70)) none hJr.out (World.grownBy_alloc wr _ none) (fun r e => by cases e))
        gi_wp2
        refine ⟨fun f e => (by cases e), ?_⟩
        gi_wp2
        go_roundw
        case rel => exact ⟨1, by omega, rfl, by rw [said_take (o := x0) rfl, E0.out]; simpa [said] using J3⟩
        case measure => decide
      | true =>
        have J3 := A.out _ wr (wr.alloc (.cells #[encI y0, .bool true] 70)) none hJr.out (World.grownBy_alloc wr _ none) (fun r e => by cases e)
        have hp : said 0 (List.take 1 [x0, x1, x2, x3, x4, x5, x6]) = said 0 (List.take 0 [x0, x1, x2, x3, x4, x5, x6]) ++ [((0 : Int), y0)] := by
          rw [said_take (o := x0) rfl, E0.out]; rfl
        have hpre : said 0 (List.take 1 [x0, x1, x2, x3, x4, x5, x6]) <+: said 0 [x0, x1, x2, x3, x4, x5, x6] := said_prefix _ _
        obtain ⟨fn, tmps, assign, body, hy, hR⟩ := Y.out _ ((0 : Int), y0) _ J3 (by have := hpre.length_le; rw [hp, List.length_append, List.length_singleton] at this; omega)
        have hp := hid hp
        have hpre := hid hpre
        have hR := hid hR
        clear J3
        gi_wp2
        refine hR.out.mono ?_
        rintro e W3 (⟨rfl, hJ3, _⟩ | ⟨rfl, hJx3⟩)
        · have hJ3 := hid hJ3
          gi_wp2
          go_roundw
          case rel => exact ⟨1, by omega, rfl, by rw [hp.out]; exact hJ3⟩
          case measure => decide
        · have hJx3 := hid hJx3
          gi_wp2
          refine bodyPost_ret (results_none rfl _ _ _) rfl ?_
          exact ⟨⟨_, rfl⟩, .inr ⟨_, hpre.out, by rw [hp.out]; exact hJx3.out⟩⟩
    · cases b1 with
      | false =>
        have J3 := hid (A.out _ wr (wr.alloc (.cells #[encI y1, .bool false] 70)) none hJr.out (World.grownBy_alloc wr _ none) (fun r e => by cases e))
        gi_wp2
        refine ⟨fun f e => (by cases e), ?_⟩
        gi_wp2
        go_roundw
        case rel => exact ⟨2, by omega, rfl, by rw [said_take (o := x1) rfl, E1.out]; simpa [said] using J3⟩
        case measure => decide
      | true =>
        have J3 := A.out _ wr (wr.alloc (.cells #[encI y1, .bool true] 70)) none hJr.out (World.grownBy_alloc wr _ none) (fun r e => by cases e)
        have hp : said 0 (List.take 2 [x0, x1, x2, x3, x4, x5, x6]) = said 0 (List.take 1 [x0, x1, x2, x3, x4, x5, x6]) ++ [((1 : Int), y1)] := by
          rw [said_take (o := x1) rfl, E1.out]; rfl
        have hpre : said 0 (List.take 2 [x0, x1, x2, x3, x4, x5, x6]) <+: said 0 [x0, x1, x2, x3, x4, x5, x6] := said_prefix _ _
        obtain ⟨fn, tmps, assign, body, hy, hR⟩ := Y.out _ ((1 : Int), y1) _ J3 (by have := hpre.length_le; rw [hp, List.length_append, List.length_singleton] at this; omega)
        have hp := hid hp
        have hpre := hid hpre
        have hR := hid hR
        clear J3
        gi_wp2
        refine hR.out.mono ?_
        rintro e W3 (⟨rfl, hJ3, _⟩ | ⟨rfl, hJx3⟩)
        · have hJ3 := hid hJ3
          gi_wp2
          go_roundw
          case rel => exact ⟨2, by omega, rfl, by rw [hp.out]; exact hJ3⟩
          case measure => decide
        · have hJx3 := hid hJx3
          gi_wp2
          refine bodyPost_ret (results_none rfl _ _ _) rfl ?_
          exact ⟨⟨_, rfl⟩, .inr ⟨_, hpre.out, by rw [hp.out]; exact hJx3.out⟩⟩
    · cases b2 with
      | false =>
        have J3 := hid (A.out _ wr (wr.alloc (.cells #[encI y2, .bool false] 70)) none hJr.out (World.grownBy_alloc wr _ none) (fun r e => by cases e))
        gi_wp2
        refine ⟨fun f e => (by cases e), ?_⟩
        gi_wp2
        go_roundw
        case rel => exact ⟨3, by omega, rfl, by rw [said_take (o := x2) rfl, E2.out]; simpa [said] using J3⟩
        case measure => decide
      | true =>
        have J3 := A.out _ wr (wr.alloc (.cells #[encI y2, .bool true] 70)) none hJr.out (World.grownBy_alloc wr _ none) (fun r e => by cases e)
        have hp : said 0 (List.take 3 [x0, x1, x2, x3, x4, x5, x6]) = said 0 (List.take 2 [x0, x1, x2, x3, x4, x5, x6]) ++ [((2 : Int), y2)] := by
          rw [said_take (o := x2) rfl, E2.out]; rfl
        have hpre : said 0 (List.take 3 [x0, x1, x2, x3, x4, x5, x6]) <+: said 0 [x0, x1, x2, x3, x4, x5, x6] := said_prefix _ _
        obtain ⟨fn, tmps, assign, body, hy, hR⟩ := Y.out _ ((2 : Int), y2) _ J3 (by have := hpre.length_le; rw [hp, List.length_append, List.length_singleton] at this; omega)
        have hp := hid hp
        have hpre := hid hpre
        have hR := hid hR
        clear J3
        gi_wp2
        refine hR.out.mono ?_
        rintro e W3 (⟨rfl, hJ3, _⟩ | ⟨rfl, hJx3⟩)
        · have hJ3 := hid hJ3
          gi_wp2
          go_roundw
          case rel => exact ⟨3, by omega, rfl, by rw [hp.out]; exact hJ3⟩
          case measure => decide
        · have hJx3 := hid hJx3
          gi_wp2
          refine bodyPost_ret (results_none rfl _ _ _) rfl ?_
          exact ⟨⟨_, rfl⟩, .inr ⟨_, hpre.out, by rw [hp.out]; exact hJx3.out⟩⟩
    · cases b3 with
      | false =>
        have J3 := hid (A.out _ wr (wr.alloc (.cells #[encI y3, .bool false] 70)) none hJr.out (World.grownBy_alloc wr _ none) (fun r e => by cases e))
        gi_wp2
        refine ⟨fun f e => (by cases e), ?_⟩
        gi_wp2
        go_roundw
        case rel => exact ⟨4, by omega, rfl, by rw [said_take (o := x3) rfl, E3.out]; simpa [said] using J3⟩
        case measure => decide
      | true =>
        have J3 := A.out _ wr (wr.alloc (.cells #[encI y3, .bool true] 70)) none hJr.out (World.grownBy_alloc wr _ none) (fun r e => by cases e)
        have hp : said 0 (List.take 4 [x0, x1, x2, x3, x4, x5, x6]) = said 0 (List.take 3 [x0, x1, x2, x3, x4, x5, x6]) ++ [((3 : Int), y3)] := by
          rw [said_take (o := x3) rfl, E3.out]; rfl
        have hpre : said 0 (List.take 4 [x0, x1, x2, x3, x4, x5, x6]) <+: said 0 [x0, x1, x2, x3, x4, x5, x6] := said_prefix _ _
        obtain ⟨fn, tmps, assign, body, hy, hR⟩ := Y.out _ ((3 : Int), y3) _ J3 (by have := hpre.length_le; rw [hp, List.length_append, List.length_singleton] at this; omega)
        have hp := hid hp
        have hpre := hid hpre
        have hR := hid hR
        clear J3
        gi_wp2
        refine hR.out.mono ?_
        rintro e W3 (⟨rfl, hJ3, _⟩ | ⟨rfl, hJx3⟩)
        · have hJ3 := hid hJ3
          gi_wp2
          go_roundw
          case rel => exact ⟨4, by omega, rfl, by rw [hp.out]; exact hJ3⟩
          case measure => decide
        · have hJx3 := hid hJx3
          gi_wp2
          refine bodyPost_ret (results_none rfl _ _ _) rfl ?_
          exact ⟨⟨_, rfl⟩, .inr ⟨_, hpre.out, by rw [hp.out]; exact hJx3.out⟩⟩
    · cases b4 with
      | false =>
        have J3 := hid (A.out _ wr (wr.alloc (.cells #[encI y4, .bool false] 70)) none hJr.out (World.grownBy_alloc wr _ none) (fun r e => by cases e))
        gi_wp2
        refine ⟨fun f e => (by cases e), ?_⟩
        gi_wp2
        go_roundw
        case rel => exact ⟨5, by omega, rfl, by rw [said_take (o := x4) rfl, E4.out]; simpa [said] using J3⟩
        case measure => decide
      | true =>
        have J3 := A.out _ wr (wr.alloc (.cells #[encI y4, .bool true] 70)) none hJr.out (World.grownBy_alloc wr _ none) (fun r e => by cases e)
        have hp : said 0 (List.take 5 [x0, x1, x2, x3, x4, x5, x6]) = said 0 (List.take 4 [x0, x1, x2, x3, x4, x5, x6]) ++ [((4 : Int), y4)] := by
          rw [said_take (o := x4) rfl, E4.out]; rfl
        have hpre : said 0 (List.take 5 [x0, x1, x2, x3, x4, x5, x6]) <+: said 0 [x0, x1, x2, x3, x4, x5, x6] := said_prefix _ _
        obtain ⟨fn, tmps, assign, body, hy, hR⟩ := Y.out _ ((4 : Int), y4) _ J3 (by have := hpre.length_le; rw [hp, List.length_append, List.length_singleton] at this; omega)
        have hp := hid hp
        have hpre := hid hpre
        have hR := hid hR
        clear J3
        gi_wp2
        refine hR.out.mono ?_
        rintro e W3 (⟨rfl, hJ3, _⟩ | ⟨rfl, hJx3⟩)
        · have hJ3 := hid hJ3
          gi_wp2
          go_roundw
          case rel => exact ⟨5, by omega, rfl, by rw [hp.out]; exact hJ3⟩
          case measure => decide
        · have hJx3 := hid hJx3
          gi_wp2
          refine bodyPost_ret (results_none rfl _ _ _) rfl ?_
          exact ⟨⟨_, rfl⟩, .inr ⟨_, hpre.out, by rw [hp.out]; exact hJx3.out⟩⟩
    · cases b5 with
      | false =>
        have J3 := hid (A.out _ wr (wr.alloc (.cells #[encI y5, .bool false] 70)) none hJr.out (World.grownBy_alloc wr _ none) (fun r e => by cases e))
        gi_wp2
        refine ⟨fun f e => (by cases e), ?_⟩
        gi_wp2
        go_roundw
        case rel => exact ⟨6, by omega, rfl, by rw [said_take (o := x5) rfl, E5.out]; simpa [said] using J3⟩
        case measure => decide
      | true =>
        have J3 := A.out _ wr (wr.alloc (.cells #[encI y5, .bool true] 70)) none hJr.out (World.grownBy_alloc wr _ none) (fun r e => by cases e)
        have hp : said 0 (List.take 6 [x0, x1, x2, x3, x4, x5, x6]) = said 0 (List.take 5 [x0, x1, x2, x3, x4, x5, x6]) ++ [((5 : Int), y5)] := by
          rw [said_take (o := x5) rfl, E5.out]; rfl
        have hpre : said 0 (List.take 6 [x0, x1, x2, x3, x4, x5, x6]) <+: said 0 [x0, x1, x2, x3, x4, x5, x6] := said_prefix _ _
        obtain ⟨fn, tmps, assign, body, hy, hR⟩ := Y.out _ ((5 : Int), y5) _ J3 (by have := hpre.length_le; rw [hp, List.length_append, List.length_singleton] at this; omega)
        have hp := hid hp
        have hpre := hid hpre
        have hR := hid hR
        clear J3
        gi_wp2
        refine hR.out.mono ?_
        rintro e W3 (⟨rfl, hJ3, _⟩ | ⟨rfl, hJx3⟩)
        · have hJ3 := hid hJ3
          gi_wp2
          go_roundw
          case rel => exact ⟨6, by omega, rfl, by rw [hp.out]; exact hJ3⟩
          case measure => decide
        · have hJx3 := hid hJx3
          gi_wp2
          refine bodyPost_ret (results_none rfl _ _ _) rfl ?_
          exact ⟨⟨_, rfl⟩, .inr ⟨_, hpre.out, by rw [hp.out]; exact hJx3.out⟩⟩
    · cases b6 with
      | false =>
        have J3 := hid (A.out _ wr (wr.alloc (.cells #[encI y6, .bool false] 70)) none hJr.out (World.grownBy_alloc wr _ none) (fun r e => by cases e))
        gi_wp2
        refine ⟨fun f e => (by cases e), ?_⟩
        gi_wp2
        go_roundw
        case rel => exact ⟨7, by omega, rfl, by rw [said_take (o := x6) rfl, E6.out]; simpa [said] using J3⟩
        case measure => decide
      | true =>
        have J3 := A.out _ wr (wr.alloc (.cells #[encI y6, .bool true] 70)) none hJr.out (World.grownBy_alloc wr _ none) (fun r e => by cases e)
        have hp : said 0 (List.take 7 [x0, x1, x2, x3, x4, x5, x6]) = said 0 (List.take 6 [x0, x1, x2, x3, x4, x5, x6]) ++ [((6 : Int), y6)] := by
          rw [said_take (o := x6) rfl, E6.out]; rfl
        have hpre : said 0 (List.take 7 [x0, x1, x2, x3, x4, x5, x6]) <+: said 0 [x0, x1, x2, x3, x4, x5, x6] := said_prefix _ _
        obtain ⟨fn, tmps, assign, body, hy, hR⟩ := Y.out _ ((6 : Int), y6) _ J3 (by have := hpre.length_le; rw [hp, List.length_append, List.length_singleton] at this; omega)
        have hp := hid hp
        have hpre := hid hpre
        have hR := hid hR
        clear J3
        gi_wp2
        refine hR.out.mono ?_
        rintro e W3 (⟨rfl, hJ3, _⟩ | ⟨rfl, hJx3⟩)
        · have hJ3 := hid hJ3
          gi_wp2
          go_roundw
          case rel => exact ⟨7, by omega, rfl, by rw [hp.out]; exact hJ3⟩
          case measure => decide
        · have hJx3 := hid hJx3
          gi_wp2
          refine bodyPost_ret (results_none rfl _ _ _) rfl ?_
          exact ⟨⟨_, rfl⟩, .inr ⟨_, hpre.out, by rw [hp.out]; exact hJx3.out⟩⟩
    · gi_wp2
      go_end0
      exact ⟨⟨_, rfl⟩, .inl ⟨_, rfl, hJr.out⟩⟩
end Go.Proofs.Ytmpbdncgilahkaa

import Derived.Test.YtdhkdniddjnigaaGreatDoorE2
namespace Go.Proofs.YtdhkdniddjnigaaGreatDoor
open Go.RowKit
set_option linter.unusedVariables false

theorem Tryz.size24 : (Tryz.prog.info? 45).map (·.size) = some 3 := by kernel_rfl
theorem ret_cell3 {fn : Func} (hf : fn.results = #[.cell 2 45, .tmp 3, .tmp 4]) {R : Ending → World → Prop} {a : Act} {w : World} {b : Nat} {c n v k e : Value} (ht : a.tmps.getD 2 undef = ptr b) (h3 : a.tmps.getD 3 undef = k) (h4 : a.tmps.getD 4 undef = e) (hg : w.heap[b]? = some (.cells #[c, n, v] 45 (0, 0))) (hd : a.defers = []) (hR : R (.returned (.tuple #[.agg #[c, n, v], k, e])) w) : bodyPost Tryz.prog fn R .ret a w := by
  refine bodyPost_ret (v := .tuple #[.agg #[c, n, v], k, e]) ?_ hd hR
  have hp : a.tmps[2]?.getD undef = ptr b := by rw [← ht]; simp
  have hp3 : a.tmps[3]?.getD undef = k := by rw [← h3]; simp
  have hp4 : a.tmps[4]?.getD undef = e := by rw [← h4]; simp
  simp [results, hf, hp, hp3, hp4, asAddr, run_loadVar_row w b 45 45 #[c, n, v] (0, 0) _ hg Tryz.underlying45 rfl (by rw [Tryz.size24]; rfl)]

/-- What is read: the code, the number, the items, how many words, the error. -/
structure RR where
  c : Int
  n : Int
  items : Ws
  k : Nat
  e : Int
def RR.bad (e : Int) : RR := ⟨0, 0, [], 0, e⟩
def RRPost (r : RR) (cs : List Comp) (en : Ending) (w' : World) : Prop :=
  ∃ v, en = .returned (.tuple #[resV r.c r.n v, .int .i64 (r.k : Int), .int .i64 r.e]) ∧ All (ownC 9 v (txW r.items) :: cs) w'
/-- A result whose first word is that of Done. -/
def readD (l : Ws) : RR :=
  if l.length < 2 then .bad 162 else match numW (l.getD 1 []) with
  | none => .bad 163
  | some n => if l.length < 3 then .bad 162 else match numW (l.getD 2 []) with
    | none => .bad 163
    | some m => if l.length < m + 3 then .bad 162 else if chkW 0 n ((l.drop 3).take m) ≠ 0 then .bad (chkW 0 n ((l.drop 3).take m)) else ⟨0, n, (l.drop 3).take m, 3 + m, 0⟩
def readR (l : Ws) : RR := match l with
  | [] => .bad 162
  | x :: _ => match codeW x with
    | none => .bad 163
    | some 0 => readD l
    | some (c + 1) => ⟨(c : Int) + 1, 0, [], 1, 0⟩

theorem zero_blk {B : Nat} {cs : List Comp} {w : World} (h : All (blkC B [.int .i64 0, .int .i64 0, .slice none 0 0] 45 :: cs) w) : (w.cell? ⟨B, 0, none⟩ = some (.int .i64 0) ∧ w.cell? ⟨B, 1, none⟩ = some (.int .i64 0) ∧ w.cell? ⟨B, 2, none⟩ = some (.slice none 0 0)) ∧ w.frozen? ⟨B, 0, none⟩ = false ∧ w.frozen? ⟨B, 1, none⟩ = false ∧ w.frozen? ⟨B, 2, none⟩ = false ∧ B < w.heap.size := by
  have hb := h.1.2.1
  exact ⟨⟨by rw [cell_at hb]; rfl, by rw [cell_at hb]; rfl, by rw [cell_at hb]; rfl⟩, free_at hb 0, free_at hb 1, free_at hb 2, h.1.2.2 B (by simp [blkC])⟩

theorem set3 {B : Nat} {a b c x y z : Value} {cs : List Comp} {w : World} (A : All (blkC B [a, b, c] 45 :: cs) w) : All (blkC B [x, y, z] 45 :: cs) (((w.setCell ⟨B, 0, none⟩ x).setCell ⟨B, 1, none⟩ y).setCell ⟨B, 2, none⟩ z) :=
  ((A.setBlk 0 x).setBlk 1 y).setBlk 2 z

theorem Tryz.elem22 (W : World) : (sizeOf (Tryz.prog.elem 43)).run Tryz.prog W = .ok 1 W := by kernel_rfl
theorem readR_nil : readR [] = .bad 162 := rfl
theorem readR_cons {l : Ws} (h : l ≠ []) : readR l = match codeW (l.getD 0 []) with
    | none => .bad 163
    | some 0 => readD l
    | some (c + 1) => ⟨(c : Int) + 1, 0, [], 1, 0⟩ := by
  cases l with
  | nil => exact absurd rfl h
  | cons x r => rfl

end Go.Proofs.YtdhkdniddjnigaaGreatDoor

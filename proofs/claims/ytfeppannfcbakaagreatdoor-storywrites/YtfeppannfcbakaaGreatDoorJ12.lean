import Derived.Test.YtfeppannfcbakaaGreatDoorJ11
namespace Go.Proofs.YtfeppannfcbakaaGreatDoor
open Go.RowKit
set_option linter.unusedVariables false

theorem Tryz.size24 : (Tryz.prog.info? 29).map (·.size) = some 3 := by kernel_rfl
theorem ret_cell3 {fn : Func} (hf : fn.results = #[.cell 2 29, .tmp 3, .tmp 4]) {R : Ending → World → Prop} {a : Act} {w : World} {b : Nat} {c n v k e : Value} (ht : a.tmps.getD 2 undef = ptr b) (h3 : a.tmps.getD 3 undef = k) (h4 : a.tmps.getD 4 undef = e) (hg : w.heap[b]? = some (.cells #[c, n, v] 29 (0, 0))) (hd : a.defers = []) (hR : R (.returned (.tuple #[.agg #[c, n, v], k, e])) w) : bodyPost Tryz.prog fn R .ret a w := by
  refine bodyPost_ret (v := .tuple #[.agg #[c, n, v], k, e]) ?_ hd hR
  have hp : a.tmps[2]?.getD undef = ptr b := by rw [← ht]; simp
  have hp3 : a.tmps[3]?.getD undef = k := by rw [← h3]; simp
  have hp4 : a.tmps[4]?.getD undef = e := by rw [← h4]; simp
  simp [results, hf, hp, hp3, hp4, asAddr, run_loadVar_row w b 29 29 #[c, n, v] (0, 0) _ hg Tryz.underlying29 rfl (by rw [Tryz.size24]; rfl)]

/-- What is read: the code, the number, the items, how many words, the error. -/
structure RR where
  c : Int
  n : Int
  items : Ws
  k : Nat
  e : Int
def RR.bad (e : Int) : RR := ⟨0, 0, [], 0, e⟩
def RRPost (r : RR) (cs : List Comp) (en : Ending) (w' : World) : Prop :=
  ∃ v, en = .returned (.tuple #[resV r.c r.n v, .int .i64 (r.k : Int), .int .i64 r.e]) ∧ All (ownC 9 v (txW r.items) :: cs) w'
/-- A result whose first word is that of Done. -/
def readD (l : Ws) : RR :=
  if l.length < 2 then .bad 162 else match numW (l.getD 1 []) with
  | none => .bad 163
  | some n => if l.length < 3 then .bad 162 else match numW (l.getD 2 []) with
    | none => .bad 163
    | some m => if l.length < m + 3 then .bad 162 else if chkW 0 n ((l.drop 3).take m) ≠ 0 then .bad (chkW 0 n ((l.drop 3).take m)) else ⟨0, n, (l.drop 3).take m, 3 + m, 0⟩
def readR (l : Ws) : RR := match l with
  | [] => .bad 162
  | x :: _ => match codeW x with
    | none => .bad 163
    | some 0 => readD l
    | some (c + 1) => ⟨(c : Int) + 1, 0, [], 1, 0⟩

theorem zero_blk {B : Nat} {cs : List Comp} {w : World} (h : All (blkC B [.int .i64 0, .int .i64 0, .slice none 0 0] 29 :: cs) w) : (w.cell? ⟨B, 0, none⟩ = some (.int .i64 0) ∧ w.cell? ⟨B, 1, none⟩ = some (.int .i64 0) ∧ w.cell? ⟨B, 2, none⟩ = some (.slice none 0 0)) ∧ w.frozen? ⟨B, 0, none⟩ = false ∧ w.frozen? ⟨B, 1, none⟩ = false ∧ w.frozen? ⟨B, 2, none⟩ = false ∧ B < w.heap.size := by
  have hb := h.1.2.1
  exact ⟨⟨by rw [cell_at hb]; rfl, by rw [cell_at hb]; rfl, by rw [cell_at hb]; rfl⟩, free_at hb 0, free_at hb 1, free_at hb 2, h.1.2.2 B (by simp [blkC])⟩

theorem set3 {B : Nat} {a b c x y z : Value} {cs : List Comp} {w : World} (A : All (blkC B [a, b, c] 29 :: cs) w) : All (blkC B [x, y, z] 29 :: cs) (((w.setCell ⟨B, 0, none⟩ x).setCell ⟨B, 1, none⟩ y).setCell ⟨B, 2, none⟩ z) :=
  ((A.setBlk 0 x).setBlk 1 y).setBlk 2 z

theorem Tryz.elem22 (W : World) : (sizeOf (Tryz.prog.elem 27)).run Tryz.prog W = .ok 1 W := by kernel_rfl
set_option maxHeartbeats 3200000 in
set_option maxRecDepth 1000000 in
theorem readDone_any {s : Value} {l : Ws} {cs : List Comp} {w : World} (A : All cs w) (V : Vars w) (h : Rt w s l) (hl : l.length * 16 ≤ 140737488355328) (hs : ∀ x ∈ l, x.length ≤ 140737488355328) :
    Calls Tryz.prog 171 #[s] w (RRPost (readD l) cs) := by
  obtain ⟨ao, c, rfl⟩ := h.form
  have A0 := hid (A.addBlk [.int .i64 0, .int .i64 0, .slice none 0 0] 29)
  have V0 := hid (V.later (ba w (.cells #[.int .i64 0, .int .i64 0, .slice none 0 0] 29)))
  have H0 := hid (h.later (ba w (.cells #[.int .i64 0, .int .i64 0, .slice none 0 0] 29)))
  have N1 := hid (numberAt_any (p := 1) V0.out H0.out (by omega) hs)
  by_cases h2 : l.length < 2
  · have e1 : readD l = .bad 162 := by unfold readD; rw [if_pos h2]
    rw [e1]
    have e2 : natA l 1 = .tuple #[.int .i64 0, .int .i64 162] := by unfold natA; rw [if_pos (by omega)]
    rw [e2] at N1
    clear e1 e2 A V h h2 hl hs V0 H0
    generalize l.length = n at *
    go_enter Tryz.func171, Tryz.ntmps171
    go_wp2_with (go_at_call 178; refine N1.out.mono ?_; rintro e w1 ⟨rfl, B1⟩; have A1 := hid (A0.out.later B1); have Z := zero_blk A1.out; obtain ⟨⟨z0, z1, z2⟩, f0, f1, f2, hlt⟩ := Z; clear B1)
    exact ret_cell3 rfl rfl rfl rfl (set3 A1.out).1.2.1 rfl ⟨_, rfl, All.addNil (set3 A1.out).tail⟩
  cases hn1 : numW (l.getD 1 []) with
  | none =>
    have e1 : readD l = .bad 163 := by unfold readD; rw [if_neg h2, hn1]
    rw [e1]
    have e2 : natA l 1 = .tuple #[.int .i64 0, .int .i64 163] := by unfold natA; rw [if_neg (by omega), hn1]
    rw [e2] at N1
    clear e1 e2 A V h h2 hl hs V0 H0 hn1
    generalize l.length = n at *
    go_enter Tryz.func171, Tryz.ntmps171
    go_wp2_with (go_at_call 178; refine N1.out.mono ?_; rintro e w1 ⟨rfl, B1⟩; have A1 := hid (A0.out.later B1); have Z := zero_blk A1.out; obtain ⟨⟨z0, z1, z2⟩, f0, f1, f2, hlt⟩ := Z; clear B1)
    exact ret_cell3 rfl rfl rfl rfl (set3 A1.out).1.2.1 rfl ⟨_, rfl, All.addNil (set3 A1.out).tail⟩
  | some z =>
    have e2 : natA l 1 = .tuple #[.int .i64 (z : Int), .int .i64 0] := by unfold natA; rw [if_neg (by omega), hn1]
    rw [e2] at N1
    have N2 : Hid (∀ W, Below (w.alloc (.cells #[.int .i64 0, .int .i64 0, .slice none 0 0] 29)).heap.size (w.alloc (.cells #[.int .i64 0, .int .i64 0, .slice none 0 0] 29)) W → Calls Tryz.prog 178 #[.slice ao l.length c, .int .i64 2] W fun e w' => e = .returned (natA l 2) ∧ Below W.heap.size W w') := hid (fun W hb => numberAt_any (p := 2) (V0.out.later hb) (H0.out.later hb) (by omega) hs)
    by_cases h3 : l.length < 3
    · have e1 : readD l = .bad 162 := by unfold readD; rw [if_neg h2, hn1]; simp only; rw [if_pos h3]
      rw [e1]
      have e3 : natA l 2 = .tuple #[.int .i64 0, .int .i64 162] := by unfold natA; rw [if_pos (by omega)]
      rw [e3] at N2
      clear e1 e2 e3 A V h h2 hl hs V0 H0 hn1 h3
      generalize l.length = n at *
      go_enter Tryz.func171, Tryz.ntmps171
      go_wp2_with (go_at_call 178; refine N1.out.mono ?_; rintro e w1 ⟨rfl, B1⟩; have A1 := hid (A0.out.later B1); have BB1 := hid B1; have Q2 := hid (N2.out w1 B1); clear B1; refine Hid.out ?_)
      refine hid ?_
      go_wp2_with (go_at_call 178; refine Q2.out.mono ?_; rintro e w2 ⟨rfl, B2⟩; have A2 := hid (A1.out.later B2); have Z := zero_blk A2.out; obtain ⟨⟨z0, z1, z2⟩, f0, f1, f2, hlt⟩ := Z; have BB2 := hid (BB1.out.trans (B2.mono BB1.out.size)); clear B2)
      exact ret_cell3 rfl rfl rfl rfl (set3 A2.out).1.2.1 rfl ⟨_, rfl, All.addNil (set3 A2.out).tail⟩
    cases hn2 : numW (l.getD 2 []) with
    | none =>
      have e1 : readD l = .bad 163 := by unfold readD; rw [if_neg h2, hn1]; simp only; rw [if_neg h3, hn2]
      rw [e1]
      have e3 : natA l 2 = .tuple #[.int .i64 0, .int .i64 163] := by unfold natA; rw [if_neg (by omega), hn2]
      rw [e3] at N2
      clear e1 e2 e3 A V h h2 hl hs V0 H0 hn1 h3 hn2
      generalize l.length = n at *
      go_enter Tryz.func171, Tryz.ntmps171
      go_wp2_with (go_at_call 178; refine N1.out.mono ?_; rintro e w1 ⟨rfl, B1⟩; have A1 := hid (A0.out.later B1); have BB1 := hid B1; have Q2 := hid (N2.out w1 B1); clear B1; refine Hid.out ?_)
      refine hid ?_
      go_wp2_with (go_at_call 178; refine Q2.out.mono ?_; rintro e w2 ⟨rfl, B2⟩; have A2 := hid (A1.out.later B2); have Z := zero_blk A2.out; obtain ⟨⟨z0, z1, z2⟩, f0, f1, f2, hlt⟩ := Z; have BB2 := hid (BB1.out.trans (B2.mono BB1.out.size)); clear B2)
      exact ret_cell3 rfl rfl rfl rfl (set3 A2.out).1.2.1 rfl ⟨_, rfl, All.addNil (set3 A2.out).tail⟩
    | some m =>
      have e3 : natA l 2 = .tuple #[.int .i64 (m : Int), .int .i64 0] := by unfold natA; rw [if_neg (by omega), hn2]
      rw [e3] at N2
      have hz := numW_le hn1
      have hm63 := numW_le hn2
      obtain ⟨aoc, cc, hcut, HC⟩ := cut_l (a := 3) (x := 3) H0.out (by omega) rfl
      have e4 : readD l = if l.length < m + 3 then .bad 162 else if chkW 0 z ((l.drop 3).take m) ≠ 0 then .bad (chkW 0 z ((l.drop 3).take m)) else ⟨0, z, (l.drop 3).take m, 3 + m, 0⟩ := by
        unfold readD; rw [if_neg h2, hn1]; simp only; rw [if_neg h3, hn2]
      rw [e4]
      have l3 : 3 ≤ l.length := by omega
      by_cases hm : l.length < m + 3
      · rw [if_pos hm]
        have hm' : ((l.length - 3 : Nat) : Int) < (m : Int) := by omega
        clear e4 e2 e3 A V h h2 hs V0 H0 hn1 h3 hn2 HC
        generalize l.length - 3 = nd at *
        generalize l.length = n at *
        go_enter Tryz.func171, Tryz.ntmps171
        go_wp2_with (go_at_call 178; refine N1.out.mono ?_; rintro e w1 ⟨rfl, B1⟩; have A1 := hid (A0.out.later B1); have BB1 := hid B1; have Q2 := hid (N2.out w1 B1); clear B1; refine Hid.out ?_)
        refine hid ?_
        go_wp2_with (go_at_call 178; refine Q2.out.mono ?_; rintro e w2 ⟨rfl, B2⟩; have A2 := hid (A1.out.later B2); have Z := zero_blk A2.out; obtain ⟨⟨z0, z1, z2⟩, f0, f1, f2, hlt⟩ := Z; have BB2 := hid (BB1.out.trans (B2.mono BB1.out.size)); clear B2)
        exact ret_cell3 rfl rfl rfl rfl (set3 A2.out).1.2.1 rfl ⟨_, rfl, All.addNil (set3 A2.out).tail⟩
      · rw [if_neg hm]
        have hm' : ¬ ((l.length - 3 : Nat) : Int) < (m : Int) := by omega
        have hdl : (l.drop 3).length = l.length - 3 := by simp
        obtain ⟨ao5, c5, hcut2, HC2⟩ := cut_h (b := m) (x := (m : Int)) HC (by rw [hdl]; omega) rfl
        have htl : ((l.drop 3).take m).length = m := by rw [List.length_take, hdl]; omega
        have CH : Hid (∀ W, Below (w.alloc (.cells #[.int .i64 0, .int .i64 0, .slice none 0 0] 29)).heap.size (w.alloc (.cells #[.int .i64 0, .int .i64 0, .slice none 0 0] 29)) W → Calls Tryz.prog 121 #[resV 0 (z : Int) (.slice ao5 m c5)] W fun e w' => e = .returned (.int .i64 (chkW 0 z ((l.drop 3).take m))) ∧ Below W.heap.size W w') := hid (fun W hb => check12 0 z (HC2.later hb) (by rw [htl]; omega))
        have CL : Hid (∀ W ds, Below (w.alloc (.cells #[.int .i64 0, .int .i64 0, .slice none 0 0] 29)).heap.size (w.alloc (.cells #[.int .i64 0, .int .i64 0, .slice none 0 0] 29)) W → All ds W → Calls Tryz.prog 179 #[.slice ao5 m c5] W fun e w' => ∃ v', e = .returned v' ∧ All (ownC 9 v' (txW ((l.drop 3).take m)) :: ds) w') := hid (fun W ds hb hA => clone_any hA (HC2.later hb) (by rw [htl]; omega))
        generalize hX : chkW 0 z ((l.drop 3).take m) = X at *
        clear e4 e2 e3 A V h h2 hs V0 H0 hn1 h3 hn2 HC hdl hX
        clear htl
        generalize (l.drop 3).take m = IT at *
        generalize l.length - 3 = nd at *
        generalize l.length = n at *
        by_cases hX0 : X ≠ 0
        · rw [if_pos hX0]
          have hX' : (X != 0) = true := by simpa using hX0
          clear hX0
          go_enter Tryz.func171, Tryz.ntmps171
          go_wp2_with (go_at_call 178; refine N1.out.mono ?_; rintro e w1 ⟨rfl, B1⟩; have A1 := hid (A0.out.later B1); have BB1 := hid B1; have Q2 := hid (N2.out w1 B1); clear B1; refine Hid.out ?_)
          refine hid ?_
          go_wp2_with (go_at_call 178; refine Q2.out.mono ?_; rintro e w2 ⟨rfl, B2⟩; have A2 := hid (A1.out.later B2); have BB2 := hid (BB1.out.trans (B2.mono BB1.out.size)); clear B2; refine Hid.out ?_)
          refine hid ?_
          have A3 := hid (A2.out.addBlk [.int .i64 0, .int .i64 (z : Int), .slice ao5 m c5] 29)
          have BB3 := hid (BB2.out.trans ((ba w2 (.cells #[.int .i64 0, .int .i64 (z : Int), .slice ao5 m c5] 29)).mono BB2.out.size))
          have Q3 := hid (CH.out _ BB3.out)
          go_wp2_with (go_at_call 121; refine Q3.out.mono ?_; rintro e w4 ⟨rfl, B4⟩; have A4 := hid (A3.out.later B4).swap; have Z := zero_blk A4.out; obtain ⟨⟨z0, z1, z2⟩, f0, f1, f2, hlt⟩ := Z; have BB4 := hid (BB3.out.trans (B4.mono BB3.out.size)); clear B4)
          exact ret_cell3 rfl rfl rfl rfl (set3 A4.out).1.2.1 rfl ⟨_, rfl, All.addNil (set3 A4.out).tail.tail⟩
        · rw [if_neg hX0]
          have hX' : X = 0 := Classical.byContradiction hX0
          subst hX'
          clear hX0
          go_enter Tryz.func171, Tryz.ntmps171
          go_wp2_with (go_at_call 178; refine N1.out.mono ?_; rintro e w1 ⟨rfl, B1⟩; have A1 := hid (A0.out.later B1); have BB1 := hid B1; have Q2 := hid (N2.out w1 B1); clear B1; refine Hid.out ?_)
          refine hid ?_
          go_wp2_with (go_at_call 178; refine Q2.out.mono ?_; rintro e w2 ⟨rfl, B2⟩; have A2 := hid (A1.out.later B2); have BB2 := hid (BB1.out.trans (B2.mono BB1.out.size)); clear B2; refine Hid.out ?_)
          refine hid ?_
          have A3 := hid (A2.out.addBlk [.int .i64 0, .int .i64 (z : Int), .slice ao5 m c5] 29)
          have BB3 := hid (BB2.out.trans ((ba w2 (.cells #[.int .i64 0, .int .i64 (z : Int), .slice ao5 m c5] 29)).mono BB2.out.size))
          have Q3 := hid (CH.out _ BB3.out)
          go_wp2_with (go_at_call 121; refine Q3.out.mono ?_; rintro e w4 ⟨rfl, B4⟩; have A4 := hid (A3.out.later B4); have BB4 := hid (BB3.out.trans (B4.mono BB3.out.size)); clear B4; refine Hid.out ?_)
          refine hid ?_
          have hb4 := A4.out.1.2.1
          have y2 : w4.cell? ⟨w2.heap.size, 2, none⟩ = some (.slice ao5 m c5) := by rw [cell_at hb4]; rfl
          have Q5 := hid (CL.out w4 _ BB4.out A4.out)
          clear hb4
          go_wp2_with (go_at_call 179; refine Q5.out.mono ?_; rintro e w5 ⟨v', rfl, A5⟩; have B5 := hid A5; clear A5; refine Hid.out ?_)
          refine hid ?_
          obtain ⟨ao6, c6, rfl⟩ := own9 B5.out
          have hb5 := B5.out.tail.1.2.1
          have u0 : w5.cell? ⟨w2.heap.size, 0, none⟩ = some (.int .i64 0) := by rw [cell_at hb5]; rfl
          have u1 : w5.cell? ⟨w2.heap.size, 1, none⟩ = some (.int .i64 (z : Int)) := by rw [cell_at hb5]; rfl
          have u2 : w5.cell? ⟨w2.heap.size, 2, none⟩ = some (.slice ao5 m c5) := by rw [cell_at hb5]; rfl
          have uf : w5.frozen? ⟨w2.heap.size, 2, none⟩ = false := free_at hb5 2
          have A6 := hid ((B5.out.perm (List.Perm.swap _ _ _)).setBlk 2 (.slice ao6 IT.length c6))
          have A7 := hid (A6.out.perm (perm3a _ _ _ _))
          obtain ⟨⟨z0, z1, z2⟩, f0, f1, f2, hlt⟩ := zero_blk A7.out
          have hne : w.heap.size ≠ w2.heap.size := by
            have := A2.out.1.2.2 w.heap.size (by simp [blkC])
            omega
          have A8 := hid (set3 (x := .int .i64 0) (y := .int .i64 (z : Int)) (z := .slice ao6 IT.length c6) A7.out)
          have hb6 := A6.out.1.2.1
          have g0 : (w5.setCell ⟨w2.heap.size, 2, none⟩ (.slice ao6 IT.length c6)).cell? ⟨w2.heap.size, 0, none⟩ = some (.int .i64 0) := by rw [cell_at hb6]; rfl
          have g1 : (w5.setCell ⟨w2.heap.size, 2, none⟩ (.slice ao6 IT.length c6)).cell? ⟨w2.heap.size, 1, none⟩ = some (.int .i64 (z : Int)) := by rw [cell_at hb6]; rfl
          have g2 : (w5.setCell ⟨w2.heap.size, 2, none⟩ (.slice ao6 IT.length c6)).cell? ⟨w2.heap.size, 2, none⟩ = some (.slice ao6 IT.length c6) := by rw [cell_at hb6]; rfl
          have wa : IntKind.i64.wrap (3 + (m : Int)) = 3 + m := by rw [IntKind.wrap_i64]; omega
          generalize hni : IT.length = ni at *
          clear hb5 hb6 B5 A6 A7 A4 A3 A2 A1 hni
          go_wp2
          have ek : ((3 + m : Nat) : Int) = 3 + (m : Int) := by omega
          exact ret_cell3 rfl rfl rfl rfl A8.out.1.2.1 rfl ⟨_, by show _ = Ending.returned (.tuple #[resV 0 (z : Int) _, .int .i64 ((3 + m : Nat) : Int), .int .i64 0]); rw [ek]; rfl, A8.out.tail.tail⟩

theorem readR_nil : readR [] = .bad 162 := rfl
theorem readR_cons {l : Ws} (h : l ≠ []) : readR l = match codeW (l.getD 0 []) with
    | none => .bad 163
    | some 0 => readD l
    | some (c + 1) => ⟨(c : Int) + 1, 0, [], 1, 0⟩ := by
  cases l with
  | nil => exact absurd rfl h
  | cons x r => rfl

set_option maxHeartbeats 1600000 in
set_option maxRecDepth 1000000 in
theorem ReadResult_any {s : Value} {l : Ws} {cs : List Comp} {w : World} (A : All cs w) (V : Vars w) (D : Cd w) (h : Rt w s l) (hl : l.length * 16 ≤ 140737488355328) (hs : ∀ x ∈ l, x.length ≤ 140737488355328) :
    Calls Tryz.prog 149 #[s] w (RRPost (readR l) cs) := by
  obtain ⟨ao, c, rfl⟩ := h.form
  have A0 := hid (A.addBlk [.int .i64 0, .int .i64 0, .slice none 0 0] 29)
  obtain ⟨⟨z0, z1, z2⟩, f0, f1, f2, hlt⟩ := zero_blk A0.out
  by_cases h0 : l = []
  · subst h0
    rw [readR_nil]
    clear A V D h hl hs
    go_enter Tryz.func149, Tryz.ntmps149
    go_wp2
    exact ret_cell3 rfl rfl rfl rfl A0.out.1.2.1 rfl ⟨_, rfl, All.addNil A0.out.tail⟩
  have hpos : 0 < l.length := List.length_pos_iff.2 h0
  rw [readR_cons h0]
  have bw := ba w (.cells #[.int .i64 0, .int .i64 0, .slice none 0 0] 29)
  have n0 : ((l.length : Int) == 0) = false := by simp; exact h0
  obtain ⟨g, o, hg, hgl, hcell⟩ := (h.later bw).at (j := 0) hpos
  subst hg
  have C := hid (codeOf_any (x := l.getD 0 []) (D.later bw))
  rw [Nat.add_zero] at hcell
  have RD : Hid (Calls Tryz.prog 171 #[.slice (some ⟨g, o, none⟩) l.length c] (w.alloc (.cells #[.int .i64 0, .int .i64 0, .slice none 0 0] 29)) (RRPost (readD l) (blkC w.heap.size [.int .i64 0, .int .i64 0, .slice none 0 0] 29 :: cs))) := hid (readDone_any A0.out (V.later bw) (h.later bw) hl hs)
  unfold codeA at C
  cases hc : codeW (l.getD 0 []) with
  | none =>
    simp only
    rw [hc] at C
    simp only [Option.getD_none, Option.isSome_none] at C
    clear A V D h hs hc RD h0
    generalize ByteArray.mk (l.getD 0 []).toArray = X at *
    generalize l.length = n at *
    go_enter Tryz.func149, Tryz.ntmps149
    go_wp2_with (go_at_call 170; refine C.out.mono ?_; rintro e w1 ⟨rfl, hw1⟩; subst w1)
    exact ret_cell3 rfl rfl rfl rfl A0.out.1.2.1 rfl ⟨_, rfl, All.addNil A0.out.tail⟩
  | some k =>
    rw [hc] at C
    simp only [Option.getD_some, Option.isSome_some] at C
    cases k with
    | succ k =>
      simp only
      have nk : (((k + 1 : Nat) : Int) != 0) = true := by simp; omega
      have A0 := hid (A.addBlk [.int .i64 ((k : Int) + 1), .int .i64 0, .slice none 0 0] 29)
      have ek : ((k + 1 : Nat) : Int) = (k : Int) + 1 := by omega
      clear A V D h hs hc RD h0
      rw [ek] at C nk
      generalize ByteArray.mk (l.getD 0 []).toArray = X at *
      generalize l.length = n at *
      go_enter Tryz.func149, Tryz.ntmps149
      go_wp2_with (go_at_call 170; refine C.out.mono ?_; rintro e w1 ⟨rfl, hw1⟩; subst w1)
      exact ret_cell3 rfl rfl rfl rfl A0.out.1.2.1 rfl ⟨_, rfl, All.addNil A0.out.tail⟩
    | zero =>
      simp only
      have ek : ((0 : Nat) : Int) = 0 := rfl
      rw [ek] at C
      clear A V D h hs hc h0 ek
      generalize ByteArray.mk (l.getD 0 []).toArray = X at *
      generalize hR : readD l = R at *
      clear hR
      generalize l.length = n at *
      unfold RRPost at RD
      go_enter Tryz.func149, Tryz.ntmps149
      go_wp2_with (go_at_call 170; refine C.out.mono ?_; rintro e w1 ⟨rfl, hw1⟩; subst w1; refine Hid.out ?_)
      refine hid ?_
      go_wp2_with (go_at_call 171; refine RD.out.mono ?_; rintro e w2 ⟨v, rfl, A2⟩; have B2 := hid A2.swap; clear A2; refine Hid.out ?_)
      refine hid ?_
      obtain ⟨ao6, c6, rfl⟩ := own9 B2.out.swap
      obtain ⟨⟨y0, y1, y2⟩, e0, e1, e2, hlt2⟩ := zero_blk B2.out
      have B3 := hid (set3 (x := .int .i64 R.c) (y := .int .i64 R.n) (z := .slice ao6 R.items.length c6) B2.out)
      clear B2
      generalize R.items.length = ni at *
      go_wp2
      exact ret_cell3 rfl rfl rfl rfl B3.out.1.2.1 rfl ⟨_, rfl, B3.out.tail⟩
end Go.Proofs.YtfeppannfcbakaaGreatDoor

namespace Go.Proofs.YtfeppannfcbakaaGreatDoor
open Go.RowKit
set_option linter.unusedVariables false

/-- A result's words. -/
def resW (c : Nat) (n : Nat) (l : Ws) : Ws := cdN.getD c [] :: (if c = 0 then Lib.decDigits n :: Lib.decDigits l.length :: l else [])
def resA (c n : Int) (l : Ws) : Ws := if chkW c n l ≠ 0 then [] else resW c.toNat n.toNat l
theorem chk_zero {c n : Int} {l : Ws} (h : chkW c n l = 0) : 0 ≤ c ∧ c ≤ 4 ∧ (c ≠ 0 → n = 0 ∧ l = []) ∧ 0 ≤ n ∧ n ≤ 1099511627776 ∧ l.length ≤ 8 ∧ ∀ x ∈ l, x.length ≤ 64 := by
  unfold chkW chkX at h
  split at h
  · simp at h
  rename_i h1
  split at h
  · simp at h
  rename_i h2
  split at h
  · simp at h
  rename_i h3
  split at h
  · simp at h
  rename_i h4
  split at h
  · simp at h
  rename_i h5
  rw [List.length_map] at h4
  refine ⟨by omega, by omega, fun hc => ?_, by omega, by omega, by omega, fun x hx => ?_⟩
  · refine ⟨Classical.byContradiction fun hn => h2 ⟨hc, Or.inl hn⟩, Classical.byContradiction fun hn => h2 ⟨hc, Or.inr (by simpa using hn)⟩⟩
  · apply Classical.byContradiction
    intro hn
    exact h5 ⟨mkB x, List.mem_map.2 ⟨x, hx, rfl⟩, by simp [ByteArray.size]; omega⟩
theorem blk3 {B : Nat} {x y z : Value} {cs : List Comp} {w : World} (h : All (blkC B [x, y, z] 29 :: cs) w) : w.cell? ⟨B, 0, none⟩ = some x ∧ w.cell? ⟨B, 1, none⟩ = some y ∧ w.cell? ⟨B, 2, none⟩ = some z := by
  have hb := h.1.2.1
  exact ⟨by rw [cell_at hb]; rfl, by rw [cell_at hb]; rfl, by rw [cell_at hb]; rfl⟩
set_option maxHeartbeats 1600000 in
set_option maxRecDepth 1000000 in
theorem Result_any {c n : Int} {s : Value} {l : Ws} {cs : List Comp} {w : World} (A : All cs w) (hR : ∀ W, All cs W → Rt W s l) (hV : ∀ W, All cs W → Vars W) (hD : ∀ W, All cs W → Cd W) (hl : l.length ≤ 140737488355328) :
    Calls Tryz.prog 89 #[resV c n s] w (WRPost (resA c n l) (chkW c n l) cs) := by
  obtain ⟨ao, cc, rfl⟩ := (hR w A).form
  have A0 := hid (A.addBlk [.int .i64 c, .int .i64 n, .slice ao l.length cc] 29)
  have CK := hid (check12 c n (hR _ A0.out.tail) hl)
  by_cases hX : chkW c n l ≠ 0
  · have e1 : resA c n l = [] := by unfold resA; rw [if_pos hX]
    rw [e1]
    have hX' : (chkW c n l != 0) = true := by simpa using hX
    clear e1 hX hR hV hD A hl
    generalize chkW c n l = XX at *
    generalize l.length = nl at *
    go_enter Tryz.func89, Tryz.ntmps89
    go_wp2_with (go_at_call 121; refine CK.out.mono ?_; rintro e w1 ⟨rfl, B1⟩; have A1 := hid (A0.out.later B1); clear B1)
    go_ret2
    exact ⟨_, rfl, All.addNil A1.out.tail⟩
  have hX0 : chkW c n l = 0 := Classical.byContradiction hX
  have e1 : resA c n l = resW c.toNat n.toNat l := by unfold resA; rw [if_neg hX]
  obtain ⟨hc0, hc4, hcn, hn0, hn1, hl8, hx64⟩ := chk_zero hX0
  rw [e1]
  rw [hX0] at CK ⊢
  clear hX hX0 e1 A hl hx64
  by_cases hz : c = 0
  · subst hz
    obtain ⟨m, rfl⟩ := Int.eq_ofNat_of_zero_le hn0
    have e2 : resW (0 : Int).toNat (m : Int).toNat l = cdN.getD 0 [] :: Lib.decDigits m :: Lib.decDigits l.length :: l := by rw [Int.toNat_natCast]; rfl
    rw [e2]
    clear e2 hc0 hc4 hcn hn0
    have IT : Hid (∀ (k : Nat) ds W, k ≤ 1099511627776 → All ds W → Vars W → Calls Tryz.prog 46 #[.int .i64 (k : Int)] W fun e w' => e = .returned (.string ⟨(Lib.decDigits k).toArray⟩) ∧ All ds w') := hid (fun k ds W hk hA hVw => by
      have := Itoa_any (v := (k : Int)) hVw (by omega) (by omega)
      rw [itoa_nat] at this
      exact this.mono fun e w' ⟨he, hb⟩ => ⟨he, hA.later hb⟩)
    have C14 : Hid (∀ W, All (blkC w.heap.size [.int .i64 0, .int .i64 (m : Int), .slice ao l.length cc] 29 :: cs) W → Calls Tryz.prog 46 #[.int .i64 (l.length : Int)] W.drew fun e w' => e = .returned (.string ⟨(Lib.decDigits l.length).toArray⟩) ∧ w'.cell? ⟨w.heap.size, 2, none⟩ = some (.slice ao l.length cc) ∧ Hid (Calls Tryz.prog 120 #[.string ⟨(Lib.decDigits l.length).toArray⟩, .slice ao l.length cc] w' fun e w2 => ∃ v', e = .returned v' ∧ All (ownC 9 v' (txW (Lib.decDigits l.length :: l)) :: blkC w.heap.size [.int .i64 0, .int .i64 (m : Int), .slice ao l.length cc] 29 :: cs) w2)) := hid (fun W hA => by
      refine (IT.out l.length _ W.drew (by omega) hA.drew (hV _ hA.drew.tail)).mono ?_
      rintro e w' ⟨rfl, hA'⟩
      exact ⟨rfl, (blk3 hA').2.2, hid (row2 hA' (hR _ hA'.tail) (by omega))⟩)
    have C8 : Hid (∀ v2 W, All (ownC 9 v2 (txW (Lib.decDigits l.length :: l)) :: blkC w.heap.size [.int .i64 0, .int .i64 (m : Int), .slice ao l.length cc] 29 :: cs) W → Calls Tryz.prog 46 #[.int .i64 (m : Int)] W fun e w' => e = .returned (.string ⟨(Lib.decDigits m).toArray⟩) ∧ Hid (Calls Tryz.prog 120 #[.string ⟨(Lib.decDigits m).toArray⟩, v2] w' fun e w2 => ∃ v', e = .returned v' ∧ Hid (Calls Tryz.prog 120 #[.string ⟨(cdN.getD 0 []).toArray⟩, v'] w2 fun e w3 => ∃ v'', e = .returned v'' ∧ All (ownC 9 v'' (txW (cdN.getD 0 [] :: Lib.decDigits m :: Lib.decDigits l.length :: l)) :: cs) w3))) := hid (fun v2 W hA => by
      refine (IT.out m _ W (by omega) hA (hV _ hA.tail.tail)).mono ?_
      rintro e w' ⟨rfl, hA'⟩
      refine ⟨rfl, hid ?_⟩
      refine (row2 hA' (rt_own hA') (by simp; omega)).mono ?_
      rintro e w2 ⟨v', rfl, hA2⟩
      refine ⟨v', rfl, hid ?_⟩
      refine (row2 hA2 (rt_own hA2) (by simp; omega)).mono ?_
      rintro e w3 ⟨v'', rfl, hA3⟩
      exact ⟨v'', rfl, hA3.del.del.del⟩)
    have CD : Hid (∀ W, All cs W → W.cell? ⟨3, 0, none⟩ = some (.string ⟨(cdN.getD 0 []).toArray⟩)) := hid (fun W hA => (hD W hA).2 0 (by omega))
    clear hR hV hD IT
    generalize (cdN.getD 0 [] :: Lib.decDigits m :: Lib.decDigits l.length :: l) = RES at *
    generalize ByteArray.mk (Lib.decDigits l.length).toArray = XL at *
    generalize ByteArray.mk (Lib.decDigits m).toArray = XM at *
    generalize ByteArray.mk (cdN.getD 0 []).toArray = X0 at *
    generalize (Lib.decDigits l.length :: l) = RES1 at *
    generalize l.length = nl at *
    go_enter Tryz.func89, Tryz.ntmps89
    go_wp2_with (go_at_call 121; refine CK.out.mono ?_; rintro e w1 ⟨rfl, B1⟩; have A1 := hid (A0.out.later B1); clear B1; refine Hid.out ?_)
    refine hid ?_
    obtain ⟨y0, y1, y2⟩ := blk3 A1.out
    have d0 := CD.out _ A1.out.tail
    have Q14 := hid (C14.out _ A1.out)
    go_wp2
    go_region_law (go_simp; first | (go_at_call 46; refine Q14.out.mono ?_; rintro e w2 ⟨rfl, y2', Q13⟩) | (go_at_call 120; refine Q13.out.mono ?_; rintro e w3 ⟨v3, rfl, A3⟩))
    all_goals
      have B3 := hid A3
      clear A3
      obtain ⟨z0, z1, z2⟩ := blk3 B3.out.tail
      have P14 := hid (C8.out _ _ B3.out)
      clear C8 C14 Q14 Q13 A1
      go_wp2_with (go_at_call 46; refine P14.out.mono ?_; rintro e w4 ⟨rfl, P13⟩; refine Hid.out ?_)
      refine hid ?_
      go_wp2_with (go_at_call 120; refine P13.out.mono ?_; rintro e w5 ⟨v5, rfl, P13b⟩; refine Hid.out ?_)
      refine hid ?_
      go_wp2_with (go_at_call 120; refine P13b.out.mono ?_; rintro e w6 ⟨v6, rfl, A6⟩; have B6 := hid A6; clear A6; refine Hid.out ?_)
      refine hid ?_
      go_wp2
      go_ret2
      exact ⟨_, rfl, B6.out⟩
  · obtain ⟨rfl, rfl⟩ := hcn hz
    obtain ⟨k, rfl⟩ := Int.eq_ofNat_of_zero_le hc0
    have e2 : resW (k : Int).toNat (0 : Int).toNat [] = [cdN.getD k []] := by unfold resW; rw [Int.toNat_natCast, if_neg (by omega)]
    rw [e2]
    clear e2 hn0 hn1 hl8 hc0 hcn
    have CD : Hid (∀ W, All cs W → W.cell? ⟨3, k, none⟩ = some (.string ⟨(cdN.getD k []).toArray⟩)) := hid (fun W hA => (hD W hA).2 k (by omega))
    have RW : Hid (∀ W, All (blkC w.heap.size [.int .i64 (k : Int), .int .i64 0, .slice ao 0 cc] 29 :: cs) W → Calls Tryz.prog 120 #[.string ⟨(cdN.getD k []).toArray⟩, .slice none 0 0] W fun e w3 => ∃ v'', e = .returned v'' ∧ All (ownC 9 v'' (txW [cdN.getD k []]) :: cs) w3) := hid (fun W hA => by
      refine (row2 hA (rt_nil W) (by simp)).mono ?_
      rintro e w3 ⟨v'', rfl, hA3⟩
      exact ⟨v'', rfl, hA3.del⟩)
    have nz : ((k : Int) != 0) = true := by simpa using hz
    have hk5 : (k : Int) < 5 := by omega
    clear hR hV hD hz
    generalize [cdN.getD k []] = RES at *
    generalize ByteArray.mk (cdN.getD k []).toArray = X0 at *
    simp only [List.length_nil] at *
    go_enter Tryz.func89, Tryz.ntmps89
    go_wp2_with (go_at_call 121; refine CK.out.mono ?_; rintro e w1 ⟨rfl, B1⟩; have A1 := hid (A0.out.later B1); clear B1; refine Hid.out ?_)
    refine hid ?_
    obtain ⟨y0, y1, y2⟩ := blk3 A1.out
    have d0 := CD.out _ A1.out.tail
    have Q13 := hid (RW.out _ A1.out)
    go_wp2_with (go_at_call 120; refine Q13.out.mono ?_; rintro e w5 ⟨v5, rfl, A5⟩; have B5 := hid A5; clear A5; refine Hid.out ?_)
    refine hid ?_
    go_wp2
    go_ret2
    exact ⟨_, rfl, B5.out⟩
end Go.Proofs.YtfeppannfcbakaaGreatDoor

namespace Go.Proofs.YtfeppannfcbakaaGreatDoor
open Go.RowKit
set_option linter.unusedVariables false

theorem findW_some {x : List UInt8} : ∀ {l : Ws} {k j : Nat}, findW x k l = some j → k ≤ j ∧ j < k + l.length ∧ l.getD (j - k) [] = x
  | [], k, j, h => by simp [findW] at h
  | y :: r, k, j, h => by
    rw [findW] at h
    split at h
    · rename_i hy
      simp only [Option.some.injEq] at h
      subst h
      exact ⟨Nat.le_refl _, by simp, by simp [hy]⟩
    · obtain ⟨h1, h2, h3⟩ := findW_some h
      refine ⟨by omega, by simp only [List.length_cons]; omega, ?_⟩
      have : j - k = (j - (k + 1)) + 1 := by omega
      rw [this, List.getD_cons_succ]
      exact h3
theorem codeW_some {x : List UInt8} {j : Nat} (h : codeW x = some j) : j < 5 ∧ cdN.getD j [] = x := by
  obtain ⟨h1, h2, h3⟩ := findW_some h
  exact ⟨by simpa [cdN] using h2, by simpa using h3⟩
theorem codeW_at {c : Nat} (h : c < 5) : codeW (cdN.getD c []) = some c := by
  obtain rfl | rfl | rfl | rfl | rfl : c = 0 ∨ c = 1 ∨ c = 2 ∨ c = 3 ∨ c = 4 := by omega
  all_goals rfl
theorem chk_small {c : Int} (h0 : 0 ≤ c) (h4 : c ≤ 4) : chkW c 0 [] = 0 := by
  unfold chkW chkX
  rw [if_neg (by omega), if_neg (by simp), if_neg (by omega), if_neg (by simp), if_neg (by simp)]
/-- What is read well is what is written. -/
theorem readR_ok {l : Ws} (h : (readR l).e = 0) : chkW (readR l).c (readR l).n (readR l).items = 0 ∧ resA (readR l).c (readR l).n (readR l).items = l.take (readR l).k ∧ (readR l).k ≤ l.length := by
  cases l with
  | nil => simp [readR, RR.bad] at h
  | cons x r =>
    cases hc : codeW x with
    | none =>
      have e : readR (x :: r) = .bad 163 := by unfold readR; simp only [hc]
      rw [e] at h; simp [RR.bad] at h
    | some j =>
      obtain ⟨hj, hx⟩ := codeW_some hc
      cases j with
      | succ j =>
        have e : readR (x :: r) = ⟨(j : Int) + 1, 0, [], 1, 0⟩ := by unfold readR; simp only [hc]
        rw [e]
        have hk : chkW ((j : Int) + 1) 0 [] = 0 := chk_small (by omega) (by omega)
        refine ⟨hk, ?_, by simp⟩
        simp only
        unfold resA
        rw [hk, if_neg (by simp)]
        have : ((j : Int) + 1).toNat = j + 1 := by omega
        rw [this]
        unfold resW
        rw [if_neg (by omega), hx]
        simp
      | zero =>
        have e : readR (x :: r) = readD (x :: r) := by unfold readR; simp only [hc]
        rw [e] at h ⊢
        unfold readD at h ⊢
        by_cases h2 : (x :: r).length < 2
        · rw [if_pos h2] at h; simp [RR.bad] at h
        rw [if_neg h2] at h ⊢
        cases hn : numW ((x :: r).getD 1 []) with
        | none => rw [hn] at h; simp [RR.bad] at h
        | some n =>
          rw [hn] at h
          simp only at h ⊢
          by_cases h3 : (x :: r).length < 3
          · rw [if_pos h3] at h; simp [RR.bad] at h
          rw [if_neg h3] at h ⊢
          cases hm : numW ((x :: r).getD 2 []) with
          | none => rw [hm] at h; simp [RR.bad] at h
          | some m =>
            rw [hm] at h
            simp only at h ⊢
            by_cases h4 : (x :: r).length < m + 3
            · rw [if_pos h4] at h; simp [RR.bad] at h
            rw [if_neg h4] at h ⊢
            by_cases h5 : chkW 0 n (((x :: r).drop 3).take m) ≠ 0
            · rw [if_pos h5] at h; exact absurd h h5
            rw [if_neg h5] at h ⊢
            have h6 : chkW 0 n (((x :: r).drop 3).take m) = 0 := Classical.byContradiction h5
            refine ⟨h6, ?_, by simp only; omega⟩
            simp only
            unfold resA
            rw [h6, if_neg (by simp), Int.toNat_natCast]
            match r, h3 with
            | [], h3 => simp at h3
            | [_], h3 => simp at h3
            | b :: c :: r, _ =>
              simp only [List.getD_cons_succ, List.getD_cons_zero] at hn hm
              have hl : m ≤ r.length := by simp only [List.length_cons] at h4; omega
              show resW 0 n (r.take m) = _
              unfold resW
              rw [if_pos rfl, hx, List.length_take, Nat.min_eq_left hl, ← numW_spelt hn, ← numW_spelt hm]
              have : 3 + m = m + 1 + 1 + 1 := by omega
              rw [this]
              simp
theorem readR_items (l : Ws) : (readR l).items.length ≤ l.length := by
  cases l with
  | nil => simp [readR, RR.bad]
  | cons x r =>
    cases hc : codeW x with
    | none =>
      have e : readR (x :: r) = .bad 163 := by unfold readR; simp only [hc]
      rw [e]; simp [RR.bad]
    | some j =>
      cases j with
      | succ j =>
        have e : readR (x :: r) = ⟨(j : Int) + 1, 0, [], 1, 0⟩ := by unfold readR; simp only [hc]
        rw [e]; simp
      | zero =>
        have e : readR (x :: r) = readD (x :: r) := by unfold readR; simp only [hc]
        rw [e]
        unfold readD
        split
        · simp [RR.bad]
        · split
          · simp [RR.bad]
          · split
            · simp [RR.bad]
            · split
              · simp [RR.bad]
              · split
                · simp [RR.bad]
                · split
                  · simp [RR.bad]
                  · simp only [List.length_take, List.length_drop]; omega
/-- What is written is read back. -/
theorem readR_back {c n : Int} {l b : Ws} (h : chkW c n l = 0) : readR (resA c n l ++ b) = ⟨c, n, l, (resA c n l).length, 0⟩ := by
  obtain ⟨hc0, hc4, hcn, hn0, hn1, hl8, hx64⟩ := chk_zero h
  obtain ⟨k, rfl⟩ := Int.eq_ofNat_of_zero_le hc0
  obtain ⟨m, rfl⟩ := Int.eq_ofNat_of_zero_le hn0
  unfold resA
  rw [h, if_neg (by simp), Int.toNat_natCast, Int.toNat_natCast]
  cases k with
  | succ k =>
    obtain ⟨hm0, rfl⟩ := hcn (by omega)
    obtain rfl : m = 0 := by omega
    unfold resW readR
    rw [if_neg (by omega), List.cons_append]
    simp only
    rw [codeW_at (by omega)]
    simp
  | zero =>
    unfold resW readR
    rw [if_pos rfl, List.cons_append]
    simp only
    rw [codeW_at (by omega)]
    simp only [List.cons_append]
    unfold readD
    rw [if_neg (by simp)]
    simp only [List.getD_cons_succ, List.getD_cons_zero]
    rw [numW_digits (by omega), numW_digits (by omega)]
    simp only
    rw [if_neg (by simp), if_neg (by simp <;> omega)]
    have e : (((cdN.getD 0 [] :: Lib.decDigits m :: Lib.decDigits l.length :: (l ++ b)).drop 3).take l.length) = l := by simp
    rw [e]
    have h' : chkW 0 (m : Int) l = 0 := h
    rw [h', if_neg (by simp)]
    simp; omega

end Go.Proofs.YtfeppannfcbakaaGreatDoor

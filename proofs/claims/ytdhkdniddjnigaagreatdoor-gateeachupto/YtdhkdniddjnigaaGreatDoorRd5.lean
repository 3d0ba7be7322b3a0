import Derived.Test.YtdhkdniddjnigaaGreatDoorRd4
namespace Go.Proofs.YtdhkdniddjnigaaGreatDoor
open Go.RowKit
set_option linter.unusedVariables false

/-- How a reader's fields say where it stands. -/
def Fits (s : St) (st : Int) (wd : List UInt8) (op es cd : Int) : Prop :=
  match s with
  | .ahead => st = 0
  | .bare w => st = 1 ∧ wd = w
  | .closed => st = 2
  | .quote o w => st = 3 ∧ wd = w ∧ op = o
  | .esc o w e => st = 4 ∧ wd = w ∧ op = o ∧ es = e
  | .high o w e => st = 5 ∧ wd = w ∧ op = o ∧ es = e
  | .low o w e d => st = 6 ∧ wd = w ∧ op = o ∧ es = e ∧ cd = d * 16 ∧ d < 16
/-- A reader that stands there. -/
def RdAt (B : Nat) (s : St) (ws : Ws) (cs : List Comp) (w : World) : Prop :=
  ∃ st wv dv op es cd wd, Fits s st wd op es cd ∧ All (rdL B st wv dv op es cd ws wd ++ cs) w
theorem RdAt.drop {B : Nat} {s : St} {ws : Ws} {cs : List Comp} {w : World} (h : RdAt B s ws cs w) : All cs w := by
  obtain ⟨st, wv, dv, op, es, cd, wd, hf, hA⟩ := h
  exact hA.tail.tail.tail
theorem RdAt.later {B : Nat} {s : St} {ws : Ws} {cs : List Comp} {w w' : World} (h : RdAt B s ws cs w) (hb : Below w.heap.size w w') : RdAt B s ws cs w' := by
  obtain ⟨st, wv, dv, op, es, cd, wd, hf, hA⟩ := h
  exact ⟨st, wv, dv, op, es, cd, wd, hf, hA.later hb⟩
/-- What a step within quotes answers. -/
def StepPost (B : Nat) (cs : List Comp) (o : Out) (e : Ending) (w' : World) : Prop :=
  match o with
  | .go s ws => e = .returned (.int .i64 (-1)) ∧ RdAt B s ws cs w'
  | .bad j => e = .returned (.int .i64 (j : Int)) ∧ All cs w'

set_option maxHeartbeats 800000 in
set_option maxRecDepth 1000000 in
theorem close_bare {B : Nat} {st : Int} {wv dv : Value} {op es cd : Int} {ws : Ws} {wd : List UInt8} {cs : List Comp} {w : World} (h : All (rdL B st wv dv op es cd ws wd ++ cs) w) (hl : wd.length ≤ 140737488355328) (hb : isBareW wd = true) :
    Calls Tryz.prog 207 #[ptr B] w fun e w' => e = .returned (.int .i64 op) ∧ w' = w := by
  obtain ⟨⟨s0, s1, s2, s3, s4, s5⟩, hf⟩ := rd_cells h
  obtain ⟨ao0, c0, rfl⟩ := owns_form (h.tail.tail.1.2.1 : w.ownsRow 0 5 1 dv _ _)
  have cv := conv_string (reads_own h.tail.tail)
  have C := hid (isBareWord_any (w := w) hl)
  clear h hf
  generalize ByteArray.mk wd.toArray = X at *
  generalize (cellsB wd).length = n at *
  go_enter Tryz.func207, Tryz.ntmps207
  go_wp2_with (go_at_call 178; refine C.out.mono ?_; rintro e w1 ⟨rfl, rfl⟩; rw [hb])
  go_ret
  exact ⟨rfl, rfl⟩

set_option maxHeartbeats 800000 in
set_option maxRecDepth 1000000 in
theorem close_word {B : Nat} {st : Int} {wv dv : Value} {op es cd : Int} {ws : Ws} {wd : List UInt8} {cs : List Comp} {w : World} (h : All (rdL B st wv dv op es cd ws wd ++ cs) w) (hl : wd.length ≤ 140737488355328) (hl2 : ws.length + 1 ≤ 1000000000000) (hb : isBareW wd = false) :
    Calls Tryz.prog 207 #[ptr B] w fun e w' => e = .returned (.int .i64 (-1)) ∧ ∃ wv' dv', All (rdL B 2 wv' dv' op es cd (ws ++ [wd]) wd ++ cs) w' := by
  obtain ⟨⟨s0, s1, s2, s3, s4, s5⟩, hf⟩ := rd_cells h
  obtain ⟨ao0, c0, rfl⟩ := owns_form (h.tail.tail.1.2.1 : w.ownsRow 0 5 1 dv _ _)
  have cv := conv_string (reads_own h.tail.tail)
  have C := hid (isBareWord_any (w := w) hl)
  have HE := hid (end_any h hl2)
  clear h hf
  generalize ByteArray.mk wd.toArray = X at *
  generalize hn : (cellsB wd).length = n at *
  go_enter Tryz.func207, Tryz.ntmps207
  go_wp2_with (first | (go_at_call 178; refine C.out.mono ?_; rintro e w1 ⟨rfl, rfl⟩; rw [hb]) | (go_at_call 159; refine HE.out.mono ?_; rintro e w1 ⟨rfl, wv', A1⟩; clear s0 s1 s2 s3 s4 s5; have hc := rd_cells A1; obtain ⟨⟨s0, s1, s2, s3, s4, s5⟩, hf⟩ := hc; have f0 := hf 0; have A2 := hid (A1.setBlk 0 (.int .i64 2)); clear A1 hf))
  go_ret
  exact ⟨rfl, _, _, A2.out⟩

set_option maxHeartbeats 800000 in
set_option maxRecDepth 1000000 in
theorem plain_any {B : Nat} {o : Nat} {x : List UInt8} {ws : Ws} {k : Nat} {b : UInt8} {cs : List Comp} {w : World} (h : RdAt B (.quote o x) ws cs w) (hl : x.length + 1 ≤ 140737488355328) (hl2 : ws.length + 1 ≤ 1000000000000) :
    Calls Tryz.prog 186 #[ptr B, .int .i64 (k : Int), .int .u8 (b.toNat : Int)] w (StepPost B cs (stepW (.quote o x) ws k b)) := by
  obtain ⟨st, wv, dv, op, es, cd, wd, ⟨rfl, rfl, rfl⟩, A⟩ := h
  by_cases h34 : b.toNat = 34
  · have hi : (b.toNat : Int) = 34 := by omega
    rw [hi]
    cases hw : isBareW wd with
    | true =>
      have e1 : stepW (.quote o wd) ws k b = .bad o := by simp [stepW, h34, hw]
      have C := hid (close_bare A (by omega) hw)
      have D := hid A.tail.tail.tail
      rw [e1]
      clear e1 hi h34 A hw
      go_enter Tryz.func186, Tryz.ntmps186
      go_wp2_with (go_at_call 207; refine C.out.mono ?_; rintro e w1 ⟨rfl, rfl⟩)
      go_ret
      exact ⟨rfl, D.out⟩
    | false =>
      have e1 : stepW (.quote o wd) ws k b = .go .closed (ws ++ [wd]) := by simp [stepW, h34, hw]
      have C := hid (close_word A (by omega) hl2 hw)
      rw [e1]
      clear e1 hi h34 A hw
      go_enter Tryz.func186, Tryz.ntmps186
      go_wp2_with (go_at_call 207; refine C.out.mono ?_; rintro e w1 ⟨rfl, wv', dv', A1⟩; have A2 := hid A1; clear A1)
      go_ret
      exact ⟨rfl, _, _, _, _, _, _, _, rfl, A2.out⟩
  · have n34 : ((b.toNat : Int) == 34) = false := by simp; omega
    by_cases h92 : b.toNat = 92
    · have e1 : stepW (.quote o wd) ws k b = .go (.esc o wd k) ws := by simp [stepW, h92]
      have hi : (b.toNat : Int) = 92 := by omega
      rw [e1, hi]
      obtain ⟨⟨s0, s1, s2, s3, s4, s5⟩, hf⟩ := rd_cells A
      have f0 := hf 0
      have f4 := hf 4
      have A2 := hid ((A.setBlk 0 (.int .i64 4)).setBlk 4 (.int .i64 k))
      clear e1 hi h92 n34 h34 A hf
      go_enter Tryz.func186, Tryz.ntmps186
      go_wp2
      go_ret
      exact ⟨rfl, _, _, _, _, _, _, _, ⟨rfl, rfl, rfl, rfl⟩, A2.out⟩
    · have n92 : ((b.toNat : Int) == 92) = false := by simp; omega
      have P := hid (prn_any b w)
      cases hp : prnN b.toNat with
      | false =>
        have e1 : stepW (.quote o wd) ws k b = .bad k := by simp [stepW, h34, h92, hp]
        rw [e1]
        have D := hid A.tail.tail.tail
        clear e1 A h34 h92
        generalize (b.toNat : Int) = bi at *
        go_enter Tryz.func186, Tryz.ntmps186
        go_wp2_with (go_at_call 206; refine P.out.mono ?_; rintro e w1 ⟨rfl, rfl⟩; rw [hp])
        go_ret
        exact ⟨rfl, D.out⟩
      | true =>
        have e1 : stepW (.quote o wd) ws k b = .go (.quote o (wd ++ [b])) ws := by simp [stepW, h34, h92, hp]
        rw [e1]
        have T := hid (take_any (b := b) A hl)
        clear e1 A h34 h92
        generalize (b.toNat : Int) = bi at *
        go_enter Tryz.func186, Tryz.ntmps186
        go_wp2_with (first | (go_at_call 206; refine P.out.mono ?_; rintro e w1 ⟨rfl, rfl⟩; rw [hp]) | (go_at_call 208; refine T.out.mono ?_; rintro e w1 ⟨rfl, dv', A1⟩; have A2 := hid A1; clear A1))
        go_ret
        exact ⟨rfl, _, _, _, _, _, _, _, ⟨rfl, rfl, rfl⟩, A2.out⟩

set_option maxHeartbeats 800000 in
set_option maxRecDepth 1000000 in
theorem escaped_any {B : Nat} {o f : Nat} {x : List UInt8} {ws : Ws} {k : Nat} {b : UInt8} {cs : List Comp} {w : World} (h : RdAt B (.esc o x f) ws cs w) (hl : x.length + 1 ≤ 140737488355328) :
    Calls Tryz.prog 187 #[ptr B, .int .i64 (k : Int), .int .u8 (b.toNat : Int)] w (StepPost B cs (stepW (.esc o x f) ws k b)) := by
  obtain ⟨st, wv, dv, op, es, cd, wd, ⟨rfl, rfl, rfl, rfl⟩, A⟩ := h
  by_cases h120 : b.toNat = 120
  · have e1 : stepW (.esc o wd f) ws k b = .go (.high o wd f) ws := by simp [stepW, h120]
    have hi : (b.toNat : Int) = 120 := by omega
    rw [e1, hi]
    obtain ⟨⟨s0, s1, s2, s3, s4, s5⟩, hf⟩ := rd_cells A
    have f0 := hf 0
    have A2 := hid (A.setBlk 0 (.int .i64 5))
    clear e1 hi h120 A hf
    go_enter Tryz.func187, Tryz.ntmps187
    go_wp2
    go_ret
    exact ⟨rfl, _, _, _, _, _, _, _, ⟨rfl, rfl, rfl, rfl⟩, A2.out⟩
  · have n120 : ((b.toNat : Int) == 120) = false := by simp; omega
    by_cases h34 : b.toNat = 34
    · have e1 : stepW (.esc o wd f) ws k b = .go (.quote o (wd ++ [b])) ws := by simp [stepW, h34]
      have T := hid (take_any (b := b) A hl)
      have hi : (b.toNat : Int) = 34 := by omega
      rw [e1]
      rw [hi] at T ⊢
      clear e1 A h34 h120 n120 hi
      go_enter Tryz.func187, Tryz.ntmps187
      go_wp2_with (go_at_call 208; refine T.out.mono ?_; rintro e w1 ⟨rfl, dv', A1⟩; have A2 := hid A1; clear A1)
      go_ret
      exact ⟨rfl, _, _, _, _, _, _, _, ⟨rfl, rfl, rfl⟩, A2.out⟩
    · have n34 : ((b.toNat : Int) == 34) = false := by simp; omega
      by_cases h92 : b.toNat = 92
      · have e1 : stepW (.esc o wd f) ws k b = .go (.quote o (wd ++ [b])) ws := by simp [stepW, h92]
        have T := hid (take_any (b := b) A hl)
        have hi : (b.toNat : Int) = 92 := by omega
        rw [e1]
        rw [hi] at T ⊢
        clear e1 A h34 h120 n120 hi n34 h92
        go_enter Tryz.func187, Tryz.ntmps187
        go_wp2_with (go_at_call 208; refine T.out.mono ?_; rintro e w1 ⟨rfl, dv', A1⟩; have A2 := hid A1; clear A1)
        go_ret
        exact ⟨rfl, _, _, _, _, _, _, _, ⟨rfl, rfl, rfl⟩, A2.out⟩
      · have n92 : ((b.toNat : Int) == 92) = false := by simp; omega
        have e1 : stepW (.esc o wd f) ws k b = .bad k := by simp [stepW, h34, h92, h120]
        rw [e1]
        have D := hid A.tail.tail.tail
        clear e1 A h34 h92 h120
        generalize (b.toNat : Int) = bi at *
        go_enter Tryz.func187, Tryz.ntmps187
        go_wp2
        go_ret
        exact ⟨rfl, D.out⟩
end Go.Proofs.YtdhkdniddjnigaaGreatDoor

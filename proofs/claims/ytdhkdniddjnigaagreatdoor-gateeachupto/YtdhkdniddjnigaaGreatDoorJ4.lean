import Derived.Test.YtdhkdniddjnigaaGreatDoorJ3
namespace Go.Proofs.YtdhkdniddjnigaaGreatDoor
open Go.RowKit
set_option linter.unusedVariables false

theorem isBareW_of {l : List UInt8} (h : ∀ j, j < l.length → bareN (l.getD j 0).toNat = true) : isBareW l = decide (l ≠ []) := by
  unfold isBareW
  rw [Bool.eq_iff_iff]
  simp only [decide_eq_true_eq]
  constructor
  · exact fun h => h.1
  · refine fun h0 => ⟨h0, fun b hb => ?_⟩
    obtain ⟨j, hj, rfl⟩ := List.getElem_of_mem hb
    have := h j hj
    simpa [List.getD, hj] using this
theorem isBareW_no {l : List UInt8} {k : Nat} (hk : k < l.length) (h : bareN (l.getD k 0).toNat = false) : isBareW l = false := by
  unfold isBareW
  refine decide_eq_false (fun h2 => ?_)
  have := h2.2 l[k] (List.getElem_mem hk)
  have e : l.getD k 0 = l[k] := by simp [List.getD, hk]
  rw [e, this] at h
  cases h

set_option maxHeartbeats 800000 in
set_option maxRecDepth 1000000 in
theorem isBareWord_any {l : List UInt8} {w : World} (hl : l.length ≤ 140737488355328) : Calls Tryz.prog 178 #[.string ⟨l.toArray⟩] w fun e w' => e = .returned (.bool (isBareW l)) ∧ w' = w := by
  have hz : (⟨l.toArray⟩ : ByteArray).size = l.length := by simp [ByteArray.size]
  have IX : Hid (∀ k, k < l.length → ∀ W, (Instr.index 9 (.string ⟨l.toArray⟩) (.int .i64 (k : Int))).run Tryz.prog W = .ok (.int .u8 ((l.getD k 0).toNat : Int)) W) := fun k hk W => idx_at hk W
  have EM : Hid ((!(⟨l.toArray⟩ : ByteArray).toList.isEmpty) = decide (l ≠ [])) := hid <| by
    rw [Lib.toList_data]
    cases l <;> simp
  generalize ByteArray.mk l.toArray = S at *
  generalize hn : l.length = n at *
  have HN := hid hn
  clear hn
  go_enter Tryz.func178, Tryz.ntmps178
  go_wp2
  go_loopw [6] (fun iv wr => ∃ k : Nat, k ≤ n ∧ iv = .int .i64 (k : Int) ∧ Hid (∀ j, j < k → bareN (l.getD j 0).toNat = true) ∧ wr = w) (fun iv _ => n - (intOf iv).toNat)
  case atStart => exact ⟨0, by omega, rfl, fun j hj => by omega, rfl⟩
  case round =>
    obtain ⟨k, hk, rfl, hall, rfl⟩ := hrel
    by_cases hlt : k < n
    · have ix := IX.out k hlt
      have hlt' : (k : Int) < (n : Int) := by omega
      generalize hb : l.getD k 0 = b at ix
      have HB := hid hb
      clear hb
      cases hx : bareN b.toNat with
      | true =>
        go_wp2_with (go_at_call 158; refine (isBare_any b _).mono ?_; rintro e w1 ⟨rfl, rfl⟩; rw [hx])
        go_roundw
        case rel => exact ⟨k + 1, by omega, by go_num, fun j hj => by
            by_cases hjk : j < k
            · exact hall.out j hjk
            · have : j = k := by omega
              subst this
              rw [HB.out]; exact hx, trivial⟩
        case measure => simp [intOf]; omega
      | false =>
        have fin : Hid (isBareW l = false) := isBareW_no (k := k) (by rw [HN.out]; exact hlt) (by rw [HB.out]; exact hx)
        go_wp2_with (go_at_call 158; refine (isBare_any b _).mono ?_; rintro e w1 ⟨rfl, rfl⟩; rw [hx])
        go_ret
        exact ⟨by rw [fin.out]; rfl, rfl⟩
    · have fin : Hid (isBareW l = decide (l ≠ [])) := isBareW_of (fun j hj => hall.out j (by have := HN.out; omega))
      have hlt' : ¬ (k : Int) < (n : Int) := by omega
      go_wp2
      go_ret
      exact ⟨by rw [fin.out, ← EM.out]; rfl, rfl⟩
set_option maxHeartbeats 800000 in
set_option maxRecDepth 1000000 in
theorem risBare_any {l : List UInt8} {w : World} (hl : l.length ≤ 140737488355328) : Calls Tryz.prog 150 #[.string ⟨l.toArray⟩] w fun e w' => e = .returned (.bool (isBareW l)) ∧ w' = w := by
  have hz : (⟨l.toArray⟩ : ByteArray).size = l.length := by simp [ByteArray.size]
  have IX : Hid (∀ k, k < l.length → ∀ W, (Instr.index 9 (.string ⟨l.toArray⟩) (.int .i64 (k : Int))).run Tryz.prog W = .ok (.int .u8 ((l.getD k 0).toNat : Int)) W) := fun k hk W => idx_at hk W
  have EM : Hid (decide (0 < l.length) = decide (l ≠ [])) := hid <| by
    cases l <;> simp
  generalize ByteArray.mk l.toArray = S at *
  generalize hn : l.length = n at *
  have HN := hid hn
  clear hn
  go_enter Tryz.func150, Tryz.ntmps150
  go_wp2
  go_loopw [3] (fun iv wr => ∃ k : Nat, k ≤ n ∧ iv = .int .i64 (k : Int) ∧ Hid (∀ j, j < k → bareN (l.getD j 0).toNat = true) ∧ wr = w) (fun iv _ => n - (intOf iv).toNat)
  case atStart => exact ⟨0, by omega, rfl, fun j hj => by omega, rfl⟩
  case round =>
    obtain ⟨k, hk, rfl, hall, rfl⟩ := hrel
    by_cases hlt : k < n
    · have ix := IX.out k hlt
      have hlt' : (k : Int) < (n : Int) := by omega
      generalize hb : l.getD k 0 = b at ix
      have HB := hid hb
      clear hb
      cases hx : bareN b.toNat with
      | true =>
        go_wp2_with (go_at_call 136; refine (rbare_any b _).mono ?_; rintro e w1 ⟨rfl, rfl⟩; rw [hx])
        go_roundw
        case rel => exact ⟨k + 1, by omega, by go_num, fun j hj => by
            by_cases hjk : j < k
            · exact hall.out j hjk
            · have : j = k := by omega
              subst this
              rw [HB.out]; exact hx, trivial⟩
        case measure => simp [intOf]; omega
      | false =>
        have fin : Hid (isBareW l = false) := isBareW_no (k := k) (by rw [HN.out]; exact hlt) (by rw [HB.out]; exact hx)
        go_wp2_with (go_at_call 136; refine (rbare_any b _).mono ?_; rintro e w1 ⟨rfl, rfl⟩; rw [hx])
        go_ret
        exact ⟨by rw [fin.out]; rfl, rfl⟩
    · have fin : Hid (isBareW l = decide (l ≠ [])) := isBareW_of (fun j hj => hall.out j (by have := HN.out; omega))
      have hlt' : ¬ (k : Int) < (n : Int) := by omega
      go_wp2
      go_ret
      exact ⟨by rw [fin.out, ← EM.out]; rfl, rfl⟩
end Go.Proofs.YtdhkdniddjnigaaGreatDoor

namespace Go.Proofs.YtdhkdniddjnigaaGreatDoor
open Go.RowKit
set_option linter.unusedVariables false

/-- How a reader's fields say where it stands. -/
def Fits (s : St) (st : Int) (wd : List UInt8) (op es cd : Int) : Prop :=
  match s with
  | .ahead => st = 0
  | .bare w => st = 1 ∧ wd = w
  | .closed => st = 2
  | .quote o w => st = 3 ∧ wd = w ∧ op = o
  | .esc o w e => st = 4 ∧ wd = w ∧ op = o ∧ es = e
  | .high o w e => st = 5 ∧ wd = w ∧ op = o ∧ es = e
  | .low o w e d => st = 6 ∧ wd = w ∧ op = o ∧ es = e ∧ cd = d * 16 ∧ d < 16
/-- A reader that stands there. -/
def RdAt (B : Nat) (s : St) (ws : Ws) (cs : List Comp) (w : World) : Prop :=
  ∃ st wv dv op es cd wd, Fits s st wd op es cd ∧ All (rdL B st wv dv op es cd ws wd ++ cs) w
theorem RdAt.drop {B : Nat} {s : St} {ws : Ws} {cs : List Comp} {w : World} (h : RdAt B s ws cs w) : All cs w := by
  obtain ⟨st, wv, dv, op, es, cd, wd, hf, hA⟩ := h
  exact hA.tail.tail.tail
theorem RdAt.later {B : Nat} {s : St} {ws : Ws} {cs : List Comp} {w w' : World} (h : RdAt B s ws cs w) (hb : Below w.heap.size w w') : RdAt B s ws cs w' := by
  obtain ⟨st, wv, dv, op, es, cd, wd, hf, hA⟩ := h
  exact ⟨st, wv, dv, op, es, cd, wd, hf, hA.later hb⟩
/-- What a step within quotes answers. -/
def StepPost (B : Nat) (cs : List Comp) (o : Out) (e : Ending) (w' : World) : Prop :=
  match o with
  | .go s ws => e = .returned (.int .i64 (-1)) ∧ RdAt B s ws cs w'
  | .bad j => e = .returned (.int .i64 (j : Int)) ∧ All cs w'

set_option maxHeartbeats 800000 in
set_option maxRecDepth 1000000 in
theorem close_bare {B : Nat} {st : Int} {wv dv : Value} {op es cd : Int} {ws : Ws} {wd : List UInt8} {cs : List Comp} {w : World} (h : All (rdL B st wv dv op es cd ws wd ++ cs) w) (hl : wd.length ≤ 140737488355328) (hb : isBareW wd = true) :
    Calls Tryz.prog 207 #[ptr B] w fun e w' => e = .returned (.int .i64 op) ∧ w' = w := by
  obtain ⟨⟨s0, s1, s2, s3, s4, s5⟩, hf⟩ := rd_cells h
  obtain ⟨ao0, c0, rfl⟩ := owns_form (h.tail.tail.1.2.1 : w.ownsRow 0 5 1 dv _ _)
  have cv := conv_string (reads_own h.tail.tail)
  have C := hid (isBareWord_any (w := w) hl)
  clear h hf
  generalize ByteArray.mk wd.toArray = X at *
  generalize (cellsB wd).length = n at *
  go_enter Tryz.func207, Tryz.ntmps207
  go_wp2_with (go_at_call 178; refine C.out.mono ?_; rintro e w1 ⟨rfl, rfl⟩; rw [hb])
  go_ret
  exact ⟨rfl, rfl⟩

set_option maxHeartbeats 800000 in
set_option maxRecDepth 1000000 in
theorem close_word {B : Nat} {st : Int} {wv dv : Value} {op es cd : Int} {ws : Ws} {wd : List UInt8} {cs : List Comp} {w : World} (h : All (rdL B st wv dv op es cd ws wd ++ cs) w) (hl : wd.length ≤ 140737488355328) (hl2 : ws.length + 1 ≤ 1000000000000) (hb : isBareW wd = false) :
    Calls Tryz.prog 207 #[ptr B] w fun e w' => e = .returned (.int .i64 (-1)) ∧ ∃ wv' dv', All (rdL B 2 wv' dv' op es cd (ws ++ [wd]) wd ++ cs) w' := by
  obtain ⟨⟨s0, s1, s2, s3, s4, s5⟩, hf⟩ := rd_cells h
  obtain ⟨ao0, c0, rfl⟩ := owns_form (h.tail.tail.1.2.1 : w.ownsRow 0 5 1 dv _ _)
  have cv := conv_string (reads_own h.tail.tail)
  have C := hid (isBareWord_any (w := w) hl)
  have HE := hid (end_any h hl2)
  clear h hf
  generalize ByteArray.mk wd.toArray = X at *
  generalize hn : (cellsB wd).length = n at *
  go_enter Tryz.func207, Tryz.ntmps207
  go_wp2_with (first | (go_at_call 178; refine C.out.mono ?_; rintro e w1 ⟨rfl, rfl⟩; rw [hb]) | (go_at_call 159; refine HE.out.mono ?_; rintro e w1 ⟨rfl, wv', A1⟩; clear s0 s1 s2 s3 s4 s5; have hc := rd_cells A1; obtain ⟨⟨s0, s1, s2, s3, s4, s5⟩, hf⟩ := hc; have f0 := hf 0; have A2 := hid (A1.setBlk 0 (.int .i64 2)); clear A1 hf))
  go_ret
  exact ⟨rfl, _, _, A2.out⟩

set_option maxHeartbeats 800000 in
set_option maxRecDepth 1000000 in
theorem plain_any {B : Nat} {o : Nat} {x : List UInt8} {ws : Ws} {k : Nat} {b : UInt8} {cs : List Comp} {w : World} (h : RdAt B (.quote o x) ws cs w) (hl : x.length + 1 ≤ 140737488355328) (hl2 : ws.length + 1 ≤ 1000000000000) :
    Calls Tryz.prog 186 #[ptr B, .int .i64 (k : Int), .int .u8 (b.toNat : Int)] w (StepPost B cs (stepW (.quote o x) ws k b)) := by
  obtain ⟨st, wv, dv, op, es, cd, wd, ⟨rfl, rfl, rfl⟩, A⟩ := h
  by_cases h34 : b.toNat = 34
  · have hi : (b.toNat : Int) = 34 := by omega
    rw [hi]
    cases hw : isBareW wd with
    | true =>
      have e1 : stepW (.quote o wd) ws k b = .bad o := by simp [stepW, h34, hw]
      have C := hid (close_bare A (by omega) hw)
      have D := hid A.tail.tail.tail
      rw [e1]
      clear e1 hi h34 A hw
      go_enter Tryz.func186, Tryz.ntmps186
      go_wp2_with (go_at_call 207; refine C.out.mono ?_; rintro e w1 ⟨rfl, rfl⟩)
      go_ret
      exact ⟨rfl, D.out⟩
    | false =>
      have e1 : stepW (.quote o wd) ws k b = .go .closed (ws ++ [wd]) := by simp [stepW, h34, hw]
      have C := hid (close_word A (by omega) hl2 hw)
      rw [e1]
      clear e1 hi h34 A hw
      go_enter Tryz.func186, Tryz.ntmps186
      go_wp2_with (go_at_call 207; refine C.out.mono ?_; rintro e w1 ⟨rfl, wv', dv', A1⟩; have A2 := hid A1; clear A1)
      go_ret
      exact ⟨rfl, _, _, _, _, _, _, _, rfl, A2.out⟩
  · have n34 : ((b.toNat : Int) == 34) = false := by simp; omega
    by_cases h92 : b.toNat = 92
    · have e1 : stepW (.quote o wd) ws k b = .go (.esc o wd k) ws := by simp [stepW, h92]
      have hi : (b.toNat : Int) = 92 := by omega
      rw [e1, hi]
      obtain ⟨⟨s0, s1, s2, s3, s4, s5⟩, hf⟩ := rd_cells A
      have f0 := hf 0
      have f4 := hf 4
      have A2 := hid ((A.setBlk 0 (.int .i64 4)).setBlk 4 (.int .i64 k))
      clear e1 hi h92 n34 h34 A hf
      go_enter Tryz.func186, Tryz.ntmps186
      go_wp2
      go_ret
      exact ⟨rfl, _, _, _, _, _, _, _, ⟨rfl, rfl, rfl, rfl⟩, A2.out⟩
    · have n92 : ((b.toNat : Int) == 92) = false := by simp; omega
      have P := hid (prn_any b w)
      cases hp : prnN b.toNat with
      | false =>
        have e1 : stepW (.quote o wd) ws k b = .bad k := by simp [stepW, h34, h92, hp]
        rw [e1]
        have D := hid A.tail.tail.tail
        clear e1 A h34 h92
        generalize (b.toNat : Int) = bi at *
        go_enter Tryz.func186, Tryz.ntmps186
        go_wp2_with (go_at_call 206; refine P.out.mono ?_; rintro e w1 ⟨rfl, rfl⟩; rw [hp])
        go_ret
        exact ⟨rfl, D.out⟩
      | true =>
        have e1 : stepW (.quote o wd) ws k b = .go (.quote o (wd ++ [b])) ws := by simp [stepW, h34, h92, hp]
        rw [e1]
        have T := hid (take_any (b := b) A hl)
        clear e1 A h34 h92
        generalize (b.toNat : Int) = bi at *
        go_enter Tryz.func186, Tryz.ntmps186
        go_wp2_with (first | (go_at_call 206; refine P.out.mono ?_; rintro e w1 ⟨rfl, rfl⟩; rw [hp]) | (go_at_call 208; refine T.out.mono ?_; rintro e w1 ⟨rfl, dv', A1⟩; have A2 := hid A1; clear A1))
        go_ret
        exact ⟨rfl, _, _, _, _, _, _, _, ⟨rfl, rfl, rfl⟩, A2.out⟩

set_option maxHeartbeats 800000 in
set_option maxRecDepth 1000000 in
theorem escaped_any {B : Nat} {o f : Nat} {x : List UInt8} {ws : Ws} {k : Nat} {b : UInt8} {cs : List Comp} {w : World} (h : RdAt B (.esc o x f) ws cs w) (hl : x.length + 1 ≤ 140737488355328) :
    Calls Tryz.prog 187 #[ptr B, .int .i64 (k : Int), .int .u8 (b.toNat : Int)] w (StepPost B cs (stepW (.esc o x f) ws k b)) := by
  obtain ⟨st, wv, dv, op, es, cd, wd, ⟨rfl, rfl, rfl, rfl⟩, A⟩ := h
  by_cases h120 : b.toNat = 120
  · have e1 : stepW (.esc o wd f) ws k b = .go (.high o wd f) ws := by simp [stepW, h120]
    have hi : (b.toNat : Int) = 120 := by omega
    rw [e1, hi]
    obtain ⟨⟨s0, s1, s2, s3, s4, s5⟩, hf⟩ := rd_cells A
    have f0 := hf 0
    have A2 := hid (A.setBlk 0 (.int .i64 5))
    clear e1 hi h120 A hf
    go_enter Tryz.func187, Tryz.ntmps187
    go_wp2
    go_ret
    exact ⟨rfl, _, _, _, _, _, _, _, ⟨rfl, rfl, rfl, rfl⟩, A2.out⟩
  · have n120 : ((b.toNat : Int) == 120) = false := by simp; omega
    by_cases h34 : b.toNat = 34
    · have e1 : stepW (.esc o wd f) ws k b = .go (.quote o (wd ++ [b])) ws := by simp [stepW, h34]
      have T := hid (take_any (b := b) A hl)
      have hi : (b.toNat : Int) = 34 := by omega
      rw [e1]
      rw [hi] at T ⊢
      clear e1 A h34 h120 n120 hi
      go_enter Tryz.func187, Tryz.ntmps187
      go_wp2_with (go_at_call 208; refine T.out.mono ?_; rintro e w1 ⟨rfl, dv', A1⟩; have A2 := hid A1; clear A1)
      go_ret
      exact ⟨rfl, _, _, _, _, _, _, _, ⟨rfl, rfl, rfl⟩, A2.out⟩
    · have n34 : ((b.toNat : Int) == 34) = false := by simp; omega
      by_cases h92 : b.toNat = 92
      · have e1 : stepW (.esc o wd f) ws k b = .go (.quote o (wd ++ [b])) ws := by simp [stepW, h92]
        have T := hid (take_any (b := b) A hl)
        have hi : (b.toNat : Int) = 92 := by omega
        rw [e1]
        rw [hi] at T ⊢
        clear e1 A h34 h120 n120 hi n34 h92
        go_enter Tryz.func187, Tryz.ntmps187
        go_wp2_with (go_at_call 208; refine T.out.mono ?_; rintro e w1 ⟨rfl, dv', A1⟩; have A2 := hid A1; clear A1)
        go_ret
        exact ⟨rfl, _, _, _, _, _, _, _, ⟨rfl, rfl, rfl⟩, A2.out⟩
      · have n92 : ((b.toNat : Int) == 92) = false := by simp; omega
        have e1 : stepW (.esc o wd f) ws k b = .bad k := by simp [stepW, h34, h92, h120]
        rw [e1]
        have D := hid A.tail.tail.tail
        clear e1 A h34 h92 h120
        generalize (b.toNat : Int) = bi at *
        go_enter Tryz.func187, Tryz.ntmps187
        go_wp2
        go_ret
        exact ⟨rfl, D.out⟩
end Go.Proofs.YtdhkdniddjnigaaGreatDoor

namespace Go.Proofs.YtdhkdniddjnigaaGreatDoor
open Go.RowKit
set_option linter.unusedVariables false

set_option maxHeartbeats 800000 in
set_option maxRecDepth 1000000 in
theorem digit_high {B : Nat} {o f d : Nat} {x : List UInt8} {ws : Ws} {cs : List Comp} {w : World} (h : RdAt B (.high o x f) ws cs w) (hd : d < 16) :
    Calls Tryz.prog 189 #[ptr B, .int .u8 (d : Int)] w (StepPost B cs (.go (.low o x f d) ws)) := by
  obtain ⟨st, wv, dv, op, es, cd, wd, ⟨rfl, rfl, rfl, rfl⟩, A⟩ := h
  obtain ⟨⟨s0, s1, s2, s3, s4, s5⟩, hf⟩ := rd_cells A
  have f0 := hf 0
  have f5 := hf 5
  have A2 := hid ((A.setBlk 0 (.int .i64 6)).setBlk 5 (.int .u8 ((d : Int) * 16)))
  clear A hf
  go_enter Tryz.func189, Tryz.ntmps189
  go_wp2
  go_ret
  exact ⟨rfl, _, _, _, _, _, _, _, ⟨rfl, rfl, rfl, rfl, rfl, hd⟩, A2.out⟩

theorem or_hex (g d : Nat) (hg : g < 16) (hd : d < 16) : bits BinOp.or IntKind.u8 ((g : Int) * 16) (d : Int) = ((16 * g + d : Nat) : Int) := by
  have h : ∀ a b : Fin 16, bits BinOp.or IntKind.u8 ((a.val : Int) * 16) (b.val : Int) = ((16 * a.val + b.val : Nat) : Int) := by decide +kernel
  exact h ⟨g, hg⟩ ⟨d, hd⟩

set_option maxHeartbeats 800000 in
set_option maxRecDepth 1000000 in
theorem digit_low {B : Nat} {o f g d : Nat} {x : List UInt8} {ws : Ws} {cs : List Comp} {w : World} (h : RdAt B (.low o x f g) ws cs w) (hl : x.length + 1 ≤ 140737488355328) (hd : d < 16) :
    Calls Tryz.prog 189 #[ptr B, .int .u8 (d : Int)] w (StepPost B cs (if prnN (16 * g + d) = true then .bad f else .go (.quote o (x ++ [UInt8.ofNat (16 * g + d)])) ws)) := by
  obtain ⟨st, wv, dv, op, es, cd, wd, ⟨rfl, rfl, rfl, rfl, rfl, hg⟩, A⟩ := h
  obtain ⟨⟨s0, s1, s2, s3, s4, s5⟩, hf⟩ := rd_cells A
  have T := hid (take_any (b := UInt8.ofNat (16 * g + d)) A hl)
  have eN : (UInt8.ofNat (16 * g + d)).toNat = 16 * g + d := by simp; omega
  rw [eN] at T
  have P : Hid (Calls Tryz.prog 206 #[.int .u8 ((16 * g + d : Nat) : Int)] w fun e w' => e = .returned (.bool (prnN (16 * g + d))) ∧ w' = w) := by
    rw [← prnI_nat]
    exact prn_int _ _
  have D := hid A.tail.tail.tail
  have ho := or_hex g d hg hd
  clear A hf hg eN
  generalize 16 * g + d = N at *
  cases hp : prnN N with
  | true =>
    rw [if_pos rfl]
    go_enter Tryz.func189, Tryz.ntmps189
    go_wp2_with (go_at_call 206; refine P.out.mono ?_; rintro e w1 ⟨rfl, rfl⟩; rw [hp])
    go_ret
    exact ⟨rfl, D.out⟩
  | false =>
    rw [if_neg (by simp)]
    go_enter Tryz.func189, Tryz.ntmps189
    go_wp2_with (first | (go_at_call 206; refine P.out.mono ?_; rintro e w1 ⟨rfl, rfl⟩; rw [hp]) | (go_at_call 208; refine T.out.mono ?_; rintro e w1 ⟨rfl, dv', A1⟩; have A2 := hid A1; clear A1))
    go_ret
    exact ⟨rfl, _, _, _, _, _, _, _, ⟨rfl, rfl, rfl⟩, A2.out⟩

/-- IndexByte in the digits. -/
theorem idxHex (b : UInt8) : Lib.indexByte [48, 49, 50, 51, 52, 53, 54, 55, 56, 57, 97, 98, 99, 100, 101, 102] b = match hexN b.toNat with | none => -1 | some d => (d : Int) := by
  have h : ∀ n : Fin 256, Lib.indexByte [48, 49, 50, 51, 52, 53, 54, 55, 56, 57, 97, 98, 99, 100, 101, 102] (UInt8.ofNat n.val) = match hexN n.val with | none => -1 | some d => (d : Int) := by decide +kernel
  have := h ⟨b.toNat, by have := b.toNat_lt; omega⟩
  simpa using this
theorem index_any (b : UInt8) (w : World) : Calls Tryz.prog 188 #[.string ⟨#[48, 49, 50, 51, 52, 53, 54, 55, 56, 57, 97, 98, 99, 100, 101, 102]⟩, .int .u8 (b.toNat : Int)] w fun e w' => e = .returned (.int .i64 (match hexN b.toNat with | none => -1 | some d => (d : Int))) ∧ w' = w := by
  have := Any.strings_IndexByte Tryz.lays137 ⟨#[48, 49, 50, 51, 52, 53, 54, 55, 56, 57, 97, 98, 99, 100, 101, 102]⟩ (b.toNat : Int) w
  rw [← idxHex b]
  have e : ((b.toNat : Int).toNat.toUInt8) = b := by simp
  rw [e] at this
  exact this

set_option maxHeartbeats 800000 in
set_option maxRecDepth 1000000 in
/-- A byte within quotes. -/
theorem quoted_any {B : Nat} {s : St} {ws : Ws} {k : Nat} {b : UInt8} {cs : List Comp} {w : World} (h : RdAt B s ws cs w) (hs : s ≠ .ahead ∧ (∀ x, s ≠ .bare x) ∧ s ≠ .closed) (hl : s.held ≤ 140737488355328) (hl2 : ws.length + 1 ≤ 1000000000000) :
    Calls Tryz.prog 160 #[ptr B, .int .i64 (k : Int), .int .u8 (b.toNat : Int)] w (StepPost B cs (stepW s ws k b)) := by
  cases s with
  | ahead => exact absurd rfl hs.1
  | bare x => exact absurd rfl (hs.2.1 x)
  | closed => exact absurd rfl hs.2.2
  | quote o x =>
    have C := hid (plain_any (k := k) (b := b) h hl hl2)
    obtain ⟨st, wv, dv, op, es, cd, wd, ⟨rfl, rfl, rfl⟩, A⟩ := h
    obtain ⟨⟨s0, s1, s2, s3, s4, s5⟩, hf⟩ := rd_cells A
    clear A hf hs
    generalize hO : stepW (St.quote o wd) ws k b = O at *
    clear hO
    generalize (b.toNat : Int) = bi at *
    go_enter Tryz.func160, Tryz.ntmps160
    go_wp2_with (go_at_call 186; refine C.out.mono ?_; intro e w1 hp; have HP := hid hp; clear hp; obtain ⟨i, rfl⟩ : ∃ i, e = .returned (.int .i64 i) := by (cases O with | go s ws => exact ⟨_, HP.out.1⟩ | bad j => exact ⟨_, HP.out.1⟩))
    go_ret
    exact HP.out
  | esc o x f =>
    have C := hid (escaped_any (k := k) (b := b) h hl)
    obtain ⟨st, wv, dv, op, es, cd, wd, ⟨rfl, rfl, rfl, rfl⟩, A⟩ := h
    obtain ⟨⟨s0, s1, s2, s3, s4, s5⟩, hf⟩ := rd_cells A
    clear A hf hs
    generalize hO : stepW (St.esc o wd f) ws k b = O at *
    clear hO
    generalize (b.toNat : Int) = bi at *
    go_enter Tryz.func160, Tryz.ntmps160
    go_wp2_with (go_at_call 187; refine C.out.mono ?_; intro e w1 hp; have HP := hid hp; clear hp; obtain ⟨i, rfl⟩ : ∃ i, e = .returned (.int .i64 i) := by (cases O with | go s ws => exact ⟨_, HP.out.1⟩ | bad j => exact ⟨_, HP.out.1⟩))
    go_ret
    exact HP.out
  | high o x f =>
    have I := hid (index_any b w)
    have C := fun d hd => hid (digit_high (d := d) h hd)
    have D := hid h.drop
    obtain ⟨st, wv, dv, op, es, cd, wd, ⟨rfl, rfl, rfl, rfl⟩, A⟩ := h
    obtain ⟨⟨s0, s1, s2, s3, s4, s5⟩, hf⟩ := rd_cells A
    clear A hf hs
    cases hx : hexN b.toNat with
    | none =>
      have e1 : stepW (.high o wd f) ws k b = .bad k := by simp [stepW, hx]
      rw [e1]
      rw [hx] at I
      clear e1 hx C
      generalize (b.toNat : Int) = bi at *
      go_enter Tryz.func160, Tryz.ntmps160
      go_wp2_with (go_at_call 188; refine I.out.mono ?_; rintro e w1 ⟨rfl, rfl⟩; simp only)
      go_ret
      exact ⟨rfl, D.out⟩
    | some d =>
      have e1 : stepW (.high o wd f) ws k b = .go (.low o wd f d) ws := by simp [stepW, hx]
      rw [e1]
      rw [hx] at I
      have hd := hexN_lt hx
      have C := C d hd
      clear e1 hx
      have hw : IntKind.u8.wrap (d : Int) = d := by
        have : ∀ a : Fin 16, IntKind.u8.wrap (a.val : Int) = a.val := by decide +kernel
        exact this ⟨d, hd⟩
      generalize hO : Out.go (.low o wd f d) ws = O at *
      clear hO
      generalize (b.toNat : Int) = bi at *
      go_enter Tryz.func160, Tryz.ntmps160
      go_wp2_with (first | (go_at_call 188; refine I.out.mono ?_; rintro e w1 ⟨rfl, rfl⟩; simp only) | (go_at_call 189; refine C.out.mono ?_; intro e w1 hp; have HP := hid hp; clear hp; obtain ⟨i, rfl⟩ : ∃ i, e = .returned (.int .i64 i) := by (cases O with | go s ws => exact ⟨_, HP.out.1⟩ | bad j => exact ⟨_, HP.out.1⟩)))
      go_ret
      exact HP.out
  | low o x f g =>
    have I := hid (index_any b w)
    have C := fun d hd => hid (digit_low (d := d) h hl hd)
    have D := hid h.drop
    obtain ⟨st, wv, dv, op, es, cd, wd, ⟨rfl, rfl, rfl, rfl, rfl, hg⟩, A⟩ := h
    obtain ⟨⟨s0, s1, s2, s3, s4, s5⟩, hf⟩ := rd_cells A
    clear A hf hs hg
    cases hx : hexN b.toNat with
    | none =>
      have e1 : stepW (.low o wd f g) ws k b = .bad k := by simp [stepW, hx]
      rw [e1]
      rw [hx] at I
      clear e1 hx C
      generalize (b.toNat : Int) = bi at *
      go_enter Tryz.func160, Tryz.ntmps160
      go_wp2_with (go_at_call 188; refine I.out.mono ?_; rintro e w1 ⟨rfl, rfl⟩; simp only)
      go_ret
      exact ⟨rfl, D.out⟩
    | some d =>
      have e1 : stepW (.low o wd f g) ws k b = (if prnN (16 * g + d) = true then .bad f else .go (.quote o (wd ++ [UInt8.ofNat (16 * g + d)])) ws) := by simp [stepW, hx]
      rw [e1]
      rw [hx] at I
      have hd := hexN_lt hx
      have C := C d hd
      clear e1 hx
      have hw : IntKind.u8.wrap (d : Int) = d := by
        have : ∀ a : Fin 16, IntKind.u8.wrap (a.val : Int) = a.val := by decide +kernel
        exact this ⟨d, hd⟩
      generalize hO : (if prnN (16 * g + d) = true then Out.bad f else .go (.quote o (wd ++ [UInt8.ofNat (16 * g + d)])) ws) = O at *
      clear hO
      generalize (b.toNat : Int) = bi at *
      go_enter Tryz.func160, Tryz.ntmps160
      go_wp2_with (first | (go_at_call 188; refine I.out.mono ?_; rintro e w1 ⟨rfl, rfl⟩; simp only) | (go_at_call 189; refine C.out.mono ?_; intro e w1 hp; have HP := hid hp; clear hp; obtain ⟨i, rfl⟩ : ∃ i, e = .returned (.int .i64 i) := by (cases O with | go s ws => exact ⟨_, HP.out.1⟩ | bad j => exact ⟨_, HP.out.1⟩)))
      go_ret
      exact HP.out
end Go.Proofs.YtdhkdniddjnigaaGreatDoor

namespace Go.Proofs.YtdhkdniddjnigaaGreatDoor
open Go.RowKit
set_option linter.unusedVariables false

/-- What Split answers, in memory of its own. -/
def SplitPost (A : Ans) (cs : List Comp) (e : Ending) (w' : World) : Prop :=
  ∃ v, e = .returned (.tuple #[v, .int .i64 (A.at : Int), .int .i64 (A.err : Int)]) ∧ All (ownC 9 v (txW A.ws) :: cs) w'

set_option maxRecDepth 1000000 in
theorem answer_bad {B n k : Nat} {cs : List Comp} {w : World} (h : All cs w) :
    Calls Tryz.prog 161 #[ptr B, .int .i64 (n : Int), .int .i64 (k : Int)] w (SplitPost (.byte k) cs) := by
  have A := hid (All.addNil (e := 9) h)
  have hk : ((k : Int) != -1) = true := by simp
  clear h
  go_enter Tryz.func161, Tryz.ntmps161
  go_wp2
  go_ret3
  exact ⟨_, rfl, A.out⟩

theorem perm_w {α : Type} (a b c : α) (cs : List α) : (a :: b :: c :: cs).Perm (a :: c :: b :: cs) := by
  exact List.Perm.cons _ (List.Perm.swap _ _ _)

set_option maxHeartbeats 800000 in
set_option maxRecDepth 1000000 in
theorem answer_fin {B n : Nat} {s : St} {ws : Ws} {cs : List Comp} {w : World} (h : RdAt B s ws cs w) (hl2 : ws.length + 1 ≤ 1000000000000) :
    Calls Tryz.prog 161 #[ptr B, .int .i64 (n : Int), .int .i64 (-1)] w (SplitPost (finW s ws n) cs) := by
  obtain ⟨st, wv, dv, op, es, cd, wd, hF, A⟩ := h
  by_cases h3 : 3 ≤ st
  · have e1 : finW s ws n = .stop n := by
      cases s <;> simp only [Fits] at hF <;> simp only [finW] <;> omega
    rw [e1]
    obtain ⟨⟨s0, s1, s2, s3, s4, s5⟩, hf⟩ := rd_cells A
    have D := hid (All.addNil (e := 9) A.tail.tail.tail)
    clear A hf hF e1
    go_enter Tryz.func161, Tryz.ntmps161
    go_wp2
    go_ret3
    exact ⟨_, rfl, D.out⟩
  · have h3' : st < 3 := by omega
    by_cases h1 : st = 1
    · have e1 : finW s ws n = .ok (ws ++ [wd]) := by
        cases s <;> simp only [Fits] at hF <;> simp only [finW] <;> (first | omega | (rw [hF.2]))
      rw [e1]
      subst h1
      obtain ⟨⟨s0, s1, s2, s3, s4, s5⟩, hf⟩ := rd_cells A
      have E := hid (end_any A hl2)
      clear A hf hF e1 h3 h3'
      go_enter Tryz.func161, Tryz.ntmps161
      go_wp2_with (go_at_call 159; refine E.out.mono ?_; rintro e w1 ⟨rfl, wv', A1⟩; clear s0 s1 s2 s3 s4 s5; have hc := rd_cells A1; obtain ⟨⟨s0, s1, s2, s3, s4, s5⟩, hf⟩ := hc; have D := hid (((A1.tail).perm (List.Perm.swap _ _ _)).tail); clear A1 hf)
      go_ret3
      exact ⟨_, rfl, D.out⟩
    · have e1 : finW s ws n = .ok ws := by
        cases s <;> simp only [Fits] at hF <;> simp only [finW] <;> omega
      have n1 : (st == 1) = false := by simpa using h1
      rw [e1]
      obtain ⟨⟨s0, s1, s2, s3, s4, s5⟩, hf⟩ := rd_cells A
      have D := hid (((A.tail).perm (List.Perm.swap _ _ _)).tail)
      clear A hf hF e1 h1
      go_enter Tryz.func161, Tryz.ntmps161
      go_wp2
      go_ret3
      exact ⟨_, rfl, D.out⟩

/-- A byte more in the word. -/
theorem word_app {B : Nat} {st : Int} {wv dv : Value} {op es cd : Int} {ws : Ws} {wd : List UInt8} {cs : List Comp} {w : World} (b : UInt8) (h : All (rdL B st wv dv op es cd ws wd ++ cs) w) (hl : wd.length + 1 ≤ 140737488355328) :
    ∃ ao0 c0 ao c w1, dv = .slice ao0 wd.length c0 ∧ (Builtin.append_ #[40, 40] 40 #[.slice ao0 wd.length c0, .slice (some ⟨w.heap.size, 0, none⟩) 1 1]).run Tryz.prog (w.alloc (.cells #[.int .u8 (b.toNat : Int)] 5)) = .ok (.slice ao (wd.length + 1) c) w1 ∧
      w.cell? ⟨B, 2, none⟩ = some (.slice ao0 wd.length c0) ∧ w1.cell? ⟨B, 2, none⟩ = some (.slice ao0 wd.length c0) ∧ w1.frozen? ⟨B, 2, none⟩ = false ∧ All (rdL B st wv (.slice ao (wd.length + 1) c) op es cd ws (wd ++ [b]) ++ cs) (w1.setCell ⟨B, 2, none⟩ (.slice ao (wd.length + 1) c)) := by
  obtain ⟨⟨s0, s1, s2, s3, s4, s5⟩, hf⟩ := rd_cells h
  obtain ⟨ao0, c0, rfl⟩ := owns_form (h.tail.tail.1.2.1 : w.ownsRow 0 5 1 dv _ _)
  obtain ⟨ao, c, w1, hr, A1⟩ := app_byte (h.perm (perm3a _ _ _ _)) b hl
  obtain ⟨⟨t0, t1, t2, t3, t4, t5⟩, hf1⟩ := rd_cells A1.tail
  rw [cellsB_length] at *
  exact ⟨ao0, c0, ao, c, w1, rfl, hr, s2, t2, hf1 2, (A1.perm (perm3a _ _ _ _).symm).setBlk 2 (.slice ao (wd.length + 1) c)⟩
end Go.Proofs.YtdhkdniddjnigaaGreatDoor

namespace Go.Proofs.YtdhkdniddjnigaaGreatDoor
open Go.RowKit
set_option linter.unusedVariables false

set_option maxRecDepth 1000000 in
theorem Split_long {l : List UInt8} {cs : List Comp} {w : World} (h : All cs w) (hl : 8192 < l.length) (hl2 : l.length ≤ 140737488355328) :
    Calls Tryz.prog 121 #[.string ⟨l.toArray⟩] w (SplitPost .long cs) := by
  have hz : (⟨l.toArray⟩ : ByteArray).size = l.length := by simp [ByteArray.size]
  have A := hid (All.addNil (e := 9) h)
  clear h
  generalize ByteArray.mk l.toArray = S at *
  generalize l.length = n at *
  have hl' : (8192 : Int) < n := by omega
  go_enter Tryz.func121, Tryz.ntmps121
  go_wp2
  go_step3
  go_wp2
  simp only [Exit.noGoto]
  go_ret3
  exact ⟨_, rfl, A.out⟩

/-- The reader as it begins. -/
theorem rd_new {cs : List Comp} {w : World} (h : All cs w) : RdAt w.heap.size .ahead [] cs (w.alloc (.cells #[.int .i64 0, .slice none 0 0, .slice none 0 0, .int .i64 0, .int .i64 0, .int .u8 0] 209)) := by
  refine ⟨0, .slice none 0 0, .slice none 0 0, 0, 0, 0, [], rfl, ?_⟩
  have A := (All.addNil (e := 9) (All.addNil (e := 5) h)).addBlk (rdV 0 (.slice none 0 0) (.slice none 0 0) 0 0 0) 209
  exact A

set_option maxHeartbeats 3200000 in
set_option maxRecDepth 1000000 in
theorem Split_short {l : List UInt8} {cs : List Comp} {w : World} (h : All cs w) (hl : l.length ≤ 8192) :
    Calls Tryz.prog 121 #[.string ⟨l.toArray⟩] w (SplitPost (runW .ahead [] 0 l) cs) := by
  have hz : (⟨l.toArray⟩ : ByteArray).size = l.length := by simp [ByteArray.size]
  have IX : Hid (∀ k, k < l.length → ∀ W, (Instr.index 9 (.string ⟨l.toArray⟩) (.int .i64 (k : Int))).run Tryz.prog W = .ok (.int .u8 ((l.getD k 0).toNat : Int)) W) := fun k hk W => idx_at hk W
  have N := hid (rd_new h)
  have R0 : Hid (runW .ahead [] 0 l = runW .ahead [] 0 (l.drop 0)) := hid (by simp)
  generalize hA : runW .ahead [] 0 l = AN at *
  clear hA h
  generalize ByteArray.mk l.toArray = S at *
  generalize hn : l.length = n at *
  have HN := hid hn
  clear hn
  have hl' : ¬ (8192 : Int) < n := by omega
  go_enter Tryz.func121, Tryz.ntmps121
  go_wp2
  go_step3
  go_wp2
  go_step3
  go_wp2
  go_loopw [6, 14] (fun gv iv wr => ∃ (k : Nat) (s : St) (ws : Ws), k ≤ n ∧ iv = .int .i64 (k : Int) ∧ gv = .int .i64 (-1) ∧ Hid (RdAt w.heap.size s ws cs wr) ∧ Hid (AN = runW s ws k (l.drop k)) ∧ Hid (s.held + wsz ws ≤ 2 * k)) (fun _ iv _ => n - (intOf iv).toNat)
  case atStart => exact ⟨0, .ahead, [], by omega, rfl, rfl, N, R0, hid (by simp [St.held, wsz])⟩
  case round =>
    obtain ⟨k, s, ws, hk, rfl, rfl, hR, hrun, hheld⟩ := hrel
    have hws : ws.length + 1 ≤ 1000000000000 := by have := hheld.out; unfold wsz at this; omega
    have hsh : s.held ≤ 140737488355328 := by have := hheld.out; omega
    by_cases hlt : k < n
    · have hlt' : (k : Int) < (n : Int) := by omega
      have ix := IX.out k hlt
      generalize hb : l.getD k 0 = b at ix
      have HB := hid hb
      clear hb
      have NX : Hid (∀ s' ws', stepW s ws k b = .go s' ws' → Hid (AN = runW s' ws' (k + 1) (l.drop (k + 1))) ∧ Hid (s'.held + wsz ws' ≤ 2 * (k + 1))) := hid (fun s' ws' hst => ⟨hid (by rw [hrun.out]; exact runW_go (by rw [HN.out]; exact hlt) (by rw [HB.out]; exact hst)), hid (by have := stepW_held hst; have := hheld.out; omega)⟩)
      have BD : Hid (∀ j, stepW s ws k b = .bad j → Hid (AN = .byte j)) := hid (fun j hst => hid (by rw [hrun.out]; exact runW_bad (by rw [HN.out]; exact hlt) (by rw [HB.out]; exact hst)))
      have DD0 := hid hR.out.drop
      clear hrun hheld
      cases s with
      | ahead =>
        obtain ⟨st, wv, dv, op, es, cd, wd, rfl, A⟩ := hR.out
        obtain ⟨⟨s0, s1, s2, s3, s4, s5⟩, hf⟩ := rd_cells A
        clear hf
        by_cases h32 : b.toNat = 32
        · have e1 : stepW .ahead ws k b = .go .ahead ws := by simp [stepW, h32]
          have hi : (b.toNat : Int) = 32 := by omega
          have nx := NX.out _ _ e1
          rw [hi] at ix
          clear e1 NX BD hi h32 A
          go_wp2
          go_roundw
          case rel => exact ⟨k + 1, .ahead, ws, by omega, by go_num, rfl, hR, nx.1, nx.2⟩
          case measure => simp [intOf]; omega
        · have n32 : ((b.toNat : Int) == 32) = false := by simp; omega
          by_cases h34 : b.toNat = 34
          · have e1 : stepW .ahead ws k b = .go (.quote k []) ws := by simp [stepW, h34]
            have hi : (b.toNat : Int) = 34 := by omega
            have nx := NX.out _ _ e1
            rw [hi] at ix
            have C := hid (begin_any (s := 3) A)
            clear e1 NX BD hi h34 h32 n32 A
            go_wp2_with (go_at_call 157; refine C.out.mono ?_; rintro e w1 ⟨rfl, A1⟩; clear s0 s1 s2 s3 s4 s5; have hc := rd_cells A1; obtain ⟨⟨s0, s1, s2, s3, s4, s5⟩, hf⟩ := hc; have f3 := hf 3; have A2 := hid (A1.setBlk 3 (.int .i64 (k : Int))); clear A1 hf)
            go_roundw
            case rel => exact ⟨k + 1, .quote k [], ws, by omega, by go_num, rfl, hid ⟨3, _, _, _, _, _, _, ⟨rfl, rfl, rfl⟩, A2.out⟩, nx.1, nx.2⟩
            case measure => simp [intOf]; omega
          · have n34 : ((b.toNat : Int) == 34) = false := by simp; omega
            have IB := hid (fun W => isBare_any b W)
            have C := hid (begin_any (s := 1) A)
            cases hx : bareN b.toNat with
            | true =>
              have e1 : stepW .ahead ws k b = .go (.bare [b]) ws := by simp [stepW, h34, h32, hx]
              have nx := NX.out _ _ e1
              have HBB : ∃ bb : UInt8, bb = b := ⟨b, rfl⟩
              clear e1 NX BD h34 h32 A
              go_wp2_with (first | (go_at_call 157; refine C.out.mono ?_; rintro e w1 ⟨rfl, A1⟩; clear s0 s1 s2 s3 s4 s5; have hq := word_app b A1 (by simp); obtain ⟨ao0, c0, ao, c, w2, hdv, hr, s2, t2, f2, A2⟩ := hq; rw [List.length_nil] at hr s2 t2 A2; have R := hid hr; have A3 := hid A2; clear hr A2 A1 hdv) | (go_at_call 158; refine (IB.out _).mono ?_; rintro e w3 ⟨rfl, rfl⟩; rw [hx]) | (at_builtin; refine wpList_append_run rfl _ _ 40 rfl _ _ _ _ rfl rfl R.out ?_))
              go_roundw
              case rel => exact ⟨k + 1, .bare [b], ws, by omega, by go_num, rfl, hid ⟨1, _, _, _, _, _, _, ⟨rfl, rfl⟩, A3.out⟩, nx.1, nx.2⟩
              case measure => simp [intOf]; omega
            | false =>
              have e1 : stepW .ahead ws k b = .bad k := by simp [stepW, h34, h32, hx]
              have fin := BD.out _ e1
              have m32 : ((b.toNat : Int) != 32) = true := by simp; omega
              clear e1 NX BD h34 h32 A
              go_wp2_with (first | (go_at_call 157; refine C.out.mono ?_; rintro e w1 ⟨rfl, A1⟩; clear s0 s1 s2 s3 s4 s5; have E := hid (end_any A1 hws); clear A1) | (go_at_call 158; refine (IB.out _).mono ?_; rintro e w3 ⟨rfl, rfl⟩; rw [hx]) | (go_at_call 159; refine E.out.mono ?_; rintro e w4 ⟨rfl, wv', A1⟩; have DD := hid A1.tail.tail.tail; clear A1) | (go_at_call 161; refine (answer_bad (k := k) (n := n) DD.out).mono ?_; rintro e w9 ⟨v, rfl, A9⟩; have A8 := hid A9; clear A9))
              simp only [Exit.noGoto]
              go_ret3
              exact ⟨v, by rw [fin.out]; rfl, by rw [fin.out]; exact A8.out⟩
      | bare x =>
        obtain ⟨st, wv, dv, op, es, cd, wd, ⟨rfl, rfl⟩, A⟩ := hR.out
        obtain ⟨⟨s0, s1, s2, s3, s4, s5⟩, hf⟩ := rd_cells A
        clear hf
        have IB := hid (fun W => isBare_any b W)
        cases hx : bareN b.toNat with
        | true =>
          have e1 : stepW (.bare wd) ws k b = .go (.bare (wd ++ [b])) ws := by simp [stepW, hx]
          have nx := NX.out _ _ e1
          have hq := word_app b A (by simp only [St.held] at hsh; omega)
          obtain ⟨ao0, c0, ao, c, w2, hdv, hr, s2', t2, f2, A2⟩ := hq
          rw [hdv] at s2
          have R := hid hr
          have A3 := hid A2
          clear e1 NX BD hr A2 A s2' hdv hsh
          generalize wd.length = nw at *
          go_wp2_with (first | (go_at_call 158; refine (IB.out _).mono ?_; rintro e w3 ⟨rfl, rfl⟩; rw [hx]) | (at_builtin; refine wpList_append_run rfl _ _ 40 rfl _ _ _ _ rfl rfl R.out ?_))
          go_roundw
          case rel => exact ⟨k + 1, .bare (wd ++ [b]), ws, by omega, by go_num, rfl, hid ⟨1, _, _, _, _, _, _, ⟨rfl, rfl⟩, A3.out⟩, nx.1, nx.2⟩
          case measure => simp [intOf]; omega
        | false =>
          have E := hid (end_any A hws)
          by_cases h32 : b.toNat = 32
          · have e1 : stepW (.bare wd) ws k b = .go .ahead (ws ++ [wd]) := by rw [stepW, hx]; simp [h32]
            have hi : (b.toNat : Int) = 32 := by omega
            have nx := NX.out _ _ e1
            clear e1 NX BD A hsh
            rw [hi] at ix IB
            clear hi h32
            go_wp2_with (first | (go_at_call 158; refine (IB.out _).mono ?_; rintro e w3 ⟨rfl, rfl⟩; rw [hx]) | (go_at_call 159; refine E.out.mono ?_; rintro e w4 ⟨rfl, wv', A1⟩; clear s0 s1 s2 s3 s4 s5; have hc := rd_cells A1; obtain ⟨⟨s0, s1, s2, s3, s4, s5⟩, hf⟩ := hc; have f0 := hf 0; have A2 := hid (A1.setBlk 0 (.int .i64 0)); clear A1 hf))
            go_roundw
            case rel => exact ⟨k + 1, .ahead, ws ++ [wd], by omega, by go_num, rfl, hid ⟨0, _, _, _, _, _, _, rfl, A2.out⟩, nx.1, nx.2⟩
            case measure => simp [intOf]; omega
          · have e1 : stepW (.bare wd) ws k b = .bad k := by rw [stepW, hx]; simp [h32]
            have fin := BD.out _ e1
            have m32 : ((b.toNat : Int) != 32) = true := by simp; omega
            clear e1 NX BD h32 A hsh
            go_wp2_with (first | (go_at_call 158; refine (IB.out _).mono ?_; rintro e w3 ⟨rfl, rfl⟩; rw [hx]) | (go_at_call 159; refine E.out.mono ?_; rintro e w4 ⟨rfl, wv', A1⟩; have DD := hid A1.tail.tail.tail; clear A1) | (go_at_call 161; refine (answer_bad (k := k) (n := n) DD.out).mono ?_; rintro e w9 ⟨v, rfl, A9⟩; have A8 := hid A9; clear A9))
            simp only [Exit.noGoto]
            go_ret3
            exact ⟨v, by rw [fin.out]; rfl, by rw [fin.out]; exact A8.out⟩
      | closed =>
        obtain ⟨st, wv, dv, op, es, cd, wd, rfl, A⟩ := hR.out
        obtain ⟨⟨s0, s1, s2, s3, s4, s5⟩, hf⟩ := rd_cells A
        by_cases h32 : b.toNat = 32
        · have e1 : stepW .closed ws k b = .go .ahead ws := by simp [stepW, h32]
          have hi : (b.toNat : Int) = 32 := by omega
          have nx := NX.out _ _ e1
          have f0 := hf 0
          have A2 := hid (A.setBlk 0 (.int .i64 0))
          rw [hi] at ix
          clear e1 NX BD A hsh hi h32 hf
          go_wp2
          go_roundw
          case rel => exact ⟨k + 1, .ahead, ws, by omega, by go_num, rfl, hid ⟨0, _, _, _, _, _, _, rfl, A2.out⟩, nx.1, nx.2⟩
          case measure => simp [intOf]; omega
        · have e1 : stepW .closed ws k b = .bad k := by simp [stepW, h32]
          have fin := BD.out _ e1
          have m32 : ((b.toNat : Int) != 32) = true := by simp; omega
          have DD := DD0
          clear e1 NX BD h32 A hsh hf
          go_wp2_with (go_at_call 161; refine (answer_bad (k := k) (n := n) DD.out).mono ?_; rintro e w9 ⟨v, rfl, A9⟩; have A8 := hid A9; clear A9)
          simp only [Exit.noGoto]
          go_ret3
          exact ⟨v, by rw [fin.out]; rfl, by rw [fin.out]; exact A8.out⟩
      | quote o x =>
        have hne : (.quote o x : St) ≠ .ahead ∧ (∀ y, (.quote o x : St) ≠ .bare y) ∧ (.quote o x : St) ≠ .closed := ⟨by simp, by simp, by simp⟩
        have C := hid (quoted_any (k := k) (b := b) hR.out hne hsh hws)
        obtain ⟨st, wv, dv, op, es, cd, wd, ⟨rfl, rfl, rfl⟩, A⟩ := hR.out
        obtain ⟨⟨s0, s1, s2, s3, s4, s5⟩, hf⟩ := rd_cells A
        clear hf A hne hsh
        cases hO : stepW (.quote o wd) ws k b with
        | go s' ws' =>
          have nx := NX.out _ _ hO
          rw [hO] at C
          clear NX BD hO
          go_wp2_with (go_at_call 160; refine C.out.mono ?_; rintro e w1 ⟨rfl, A1⟩; have A2 := hid A1; clear A1)
          go_roundw
          case rel => exact ⟨k + 1, s', ws', by omega, by go_num, rfl, A2, nx.1, nx.2⟩
          case measure => simp [intOf]; omega
        | bad j =>
          have fin := BD.out _ hO
          rw [hO] at C
          have mj : ((j : Int) != -1) = true := by simp
          clear NX BD hO
          go_wp2_with (first | (go_at_call 160; refine C.out.mono ?_; rintro e w1 ⟨rfl, A1⟩; have DD := hid A1; clear A1) | (go_at_call 161; refine (answer_bad (k := j) (n := n) DD.out).mono ?_; rintro e w9 ⟨v, rfl, A9⟩; have A8 := hid A9; clear A9))
          simp only [Exit.noGoto]
          go_ret3
          exact ⟨v, by rw [fin.out]; rfl, by rw [fin.out]; exact A8.out⟩
      | esc o x f =>
        have hne : (.esc o x f : St) ≠ .ahead ∧ (∀ y, (.esc o x f : St) ≠ .bare y) ∧ (.esc o x f : St) ≠ .closed := ⟨by simp, by simp, by simp⟩
        have C := hid (quoted_any (k := k) (b := b) hR.out hne hsh hws)
        obtain ⟨st, wv, dv, op, es, cd, wd, ⟨rfl, rfl, rfl, rfl⟩, A⟩ := hR.out
        obtain ⟨⟨s0, s1, s2, s3, s4, s5⟩, hf⟩ := rd_cells A
        clear hf A hne hsh
        cases hO : stepW (.esc o wd f) ws k b with
        | go s' ws' =>
          have nx := NX.out _ _ hO
          rw [hO] at C
          clear NX BD hO
          go_wp2_with (go_at_call 160; refine C.out.mono ?_; rintro e w1 ⟨rfl, A1⟩; have A2 := hid A1; clear A1)
          go_roundw
          case rel => exact ⟨k + 1, s', ws', by omega, by go_num, rfl, A2, nx.1, nx.2⟩
          case measure => simp [intOf]; omega
        | bad j =>
          have fin := BD.out _ hO
          rw [hO] at C
          have mj : ((j : Int) != -1) = true := by simp
          clear NX BD hO
          go_wp2_with (first | (go_at_call 160; refine C.out.mono ?_; rintro e w1 ⟨rfl, A1⟩; have DD := hid A1; clear A1) | (go_at_call 161; refine (answer_bad (k := j) (n := n) DD.out).mono ?_; rintro e w9 ⟨v, rfl, A9⟩; have A8 := hid A9; clear A9))
          simp only [Exit.noGoto]
          go_ret3
          exact ⟨v, by rw [fin.out]; rfl, by rw [fin.out]; exact A8.out⟩
      | high o x f =>
        have hne : (.high o x f : St) ≠ .ahead ∧ (∀ y, (.high o x f : St) ≠ .bare y) ∧ (.high o x f : St) ≠ .closed := ⟨by simp, by simp, by simp⟩
        have C := hid (quoted_any (k := k) (b := b) hR.out hne hsh hws)
        obtain ⟨st, wv, dv, op, es, cd, wd, ⟨rfl, rfl, rfl, rfl⟩, A⟩ := hR.out
        obtain ⟨⟨s0, s1, s2, s3, s4, s5⟩, hf⟩ := rd_cells A
        clear hf A hne hsh
        cases hO : stepW (.high o wd f) ws k b with
        | go s' ws' =>
          have nx := NX.out _ _ hO
          rw [hO] at C
          clear NX BD hO
          go_wp2_with (go_at_call 160; refine C.out.mono ?_; rintro e w1 ⟨rfl, A1⟩; have A2 := hid A1; clear A1)
          go_roundw
          case rel => exact ⟨k + 1, s', ws', by omega, by go_num, rfl, A2, nx.1, nx.2⟩
          case measure => simp [intOf]; omega
        | bad j =>
          have fin := BD.out _ hO
          rw [hO] at C
          have mj : ((j : Int) != -1) = true := by simp
          clear NX BD hO
          go_wp2_with (first | (go_at_call 160; refine C.out.mono ?_; rintro e w1 ⟨rfl, A1⟩; have DD := hid A1; clear A1) | (go_at_call 161; refine (answer_bad (k := j) (n := n) DD.out).mono ?_; rintro e w9 ⟨v, rfl, A9⟩; have A8 := hid A9; clear A9))
          simp only [Exit.noGoto]
          go_ret3
          exact ⟨v, by rw [fin.out]; rfl, by rw [fin.out]; exact A8.out⟩
      | low o x f g =>
        have hne : (.low o x f g : St) ≠ .ahead ∧ (∀ y, (.low o x f g : St) ≠ .bare y) ∧ (.low o x f g : St) ≠ .closed := ⟨by simp, by simp, by simp⟩
        have C := hid (quoted_any (k := k) (b := b) hR.out hne hsh hws)
        obtain ⟨st, wv, dv, op, es, cd, wd, ⟨rfl, rfl, rfl, rfl, rfl, hg⟩, A⟩ := hR.out
        obtain ⟨⟨s0, s1, s2, s3, s4, s5⟩, hf⟩ := rd_cells A
        clear hf A hne hsh
        cases hO : stepW (.low o wd f g) ws k b with
        | go s' ws' =>
          have nx := NX.out _ _ hO
          rw [hO] at C
          clear NX BD hO
          go_wp2_with (go_at_call 160; refine C.out.mono ?_; rintro e w1 ⟨rfl, A1⟩; have A2 := hid A1; clear A1)
          go_roundw
          case rel => exact ⟨k + 1, s', ws', by omega, by go_num, rfl, A2, nx.1, nx.2⟩
          case measure => simp [intOf]; omega
        | bad j =>
          have fin := BD.out _ hO
          rw [hO] at C
          have mj : ((j : Int) != -1) = true := by simp
          clear NX BD hO
          go_wp2_with (first | (go_at_call 160; refine C.out.mono ?_; rintro e w1 ⟨rfl, A1⟩; have DD := hid A1; clear A1) | (go_at_call 161; refine (answer_bad (k := j) (n := n) DD.out).mono ?_; rintro e w9 ⟨v, rfl, A9⟩; have A8 := hid A9; clear A9))
          simp only [Exit.noGoto]
          go_ret3
          exact ⟨v, by rw [fin.out]; rfl, by rw [fin.out]; exact A8.out⟩
    · have hlt' : ¬ (k : Int) < (n : Int) := by omega
      have fin : Hid (AN = finW s ws k) := hid (by rw [hrun.out]; exact runW_end (by rw [HN.out]; omega))
      have C := hid (answer_fin (n := n) hR.out hws)
      have hkn := hid (show k = n by omega)
      go_wp2_with (go_at_call 161; refine C.out.mono ?_; rintro e w1 ⟨v, rfl, A1⟩; have A2 := hid A1; clear A1)
      simp only [Exit.noGoto]
      go_ret3
      refine ⟨v, ?_, ?_⟩
      · rw [fin.out, hkn.out]; rfl
      · rw [fin.out, hkn.out]; exact A2.out
end Go.Proofs.YtdhkdniddjnigaaGreatDoor

namespace Go.Proofs.YtdhkdniddjnigaaGreatDoor
open Go.RowKit
set_option linter.unusedVariables false

/-- What the document's digit tells. -/
def hexI (k : Int) : Int := if 48 ≤ k ∧ k ≤ 57 then k - 48 else if 97 ≤ k ∧ k ≤ 102 then k - 87 else -1
theorem hexI_nat (n : Nat) : hexI (n : Int) = match hexN n with | none => -1 | some d => (d : Int) := by
  unfold hexI hexN
  by_cases h1 : 48 ≤ n ∧ n ≤ 57
  · rw [if_pos (by omega), if_pos h1]; simp only; omega
  · rw [if_neg (by omega), if_neg h1]
    by_cases h2 : 97 ≤ n ∧ n ≤ 102
    · rw [if_pos (by omega), if_pos h2]; simp only; omega
    · rw [if_neg (by omega), if_neg h2]
set_option maxRecDepth 1000000 in
theorem rdigit_int (k : Int) (w : World) (h0 : 0 ≤ k) (h1 : k < 256) : Calls Tryz.prog 181 #[.int .u8 k] w fun e w' => e = .returned (.int .i64 (hexI k)) ∧ w' = w := by
  have key : ∀ b, hexI k = b → Hid (hexI k = b) := fun b h => h
  by_cases a48 : 48 ≤ k
  · by_cases b57 : k ≤ 57
    · have H := key (k - 48) (by unfold hexI; rw [if_pos ⟨a48, b57⟩])
      clear key
      go_enter Tryz.func181, Tryz.ntmps181
      go_wp2
      go_ret
      exact ⟨by rw [H.out]; rfl, rfl⟩
    · by_cases a97 : 97 ≤ k
      · by_cases b102 : k ≤ 102
        · have H := key (k - 97 + 10) (by unfold hexI; rw [if_neg (by omega), if_pos ⟨a97, b102⟩]; omega)
          clear key
          go_enter Tryz.func181, Tryz.ntmps181
          go_wp2
          go_ret
          exact ⟨by rw [H.out]; rfl, rfl⟩
        · have H := key (-1) (by unfold hexI; rw [if_neg (by omega), if_neg (by omega)])
          clear key
          go_enter Tryz.func181, Tryz.ntmps181
          go_wp2
          go_ret
          exact ⟨by rw [H.out]; rfl, rfl⟩
      · have H := key (-1) (by unfold hexI; rw [if_neg (by omega), if_neg (by omega)])
        clear key
        go_enter Tryz.func181, Tryz.ntmps181
        go_wp2
        go_ret
        exact ⟨by rw [H.out]; rfl, rfl⟩
  · have a97 : ¬ 97 ≤ k := by omega
    have H := key (-1) (by unfold hexI; rw [if_neg (by omega), if_neg (by omega)])
    clear key
    go_enter Tryz.func181, Tryz.ntmps181
    go_wp2
    go_ret
    exact ⟨by rw [H.out]; rfl, rfl⟩
theorem rdigit_any (b : UInt8) (w : World) : Calls Tryz.prog 181 #[.int .u8 (b.toNat : Int)] w fun e w' => e = .returned (.int .i64 (match hexN b.toNat with | none => -1 | some d => (d : Int))) ∧ w' = w := by
  rw [← hexI_nat]
  exact rdigit_int _ _ (by omega) (by have := b.toNat_lt; omega)

/-- What the document's quoted answers: the word and the place behind its end; else a place and an error. -/
def QPost (AN : Ans) (l : List UInt8) (o : Nat) (ws : Ws) (cs : List Comp) (e : Ending) (w' : World) : Prop :=
  ∃ (x : List UInt8) (k er : Nat), e = .returned (.tuple #[.string ⟨x.toArray⟩, .int .i64 (k : Int), .int .i64 (er : Int)]) ∧ All cs w' ∧
    (er = 0 ∧ k ≤ l.length ∧ o < k ∧ AN = runW .closed (ws ++ [x]) k (l.drop k) ∨ er ≠ 0 ∧ AN.at = k ∧ AN.err = er ∧ AN.ws = [])

/-- Two digits on their way. -/
def Inn (AN : Ans) (l : List UInt8) (o i : Nat) (x : List UInt8) (ws : Ws) (j v : Nat) : Prop :=
  match j with
  | 0 => v = 0 ∧ AN = runW (.high o x i) ws (i + 2) (l.drop (i + 2))
  | 1 => v < 16 ∧ AN = runW (.low o x i v) ws (i + 3) (l.drop (i + 3))
  | _ => v < 256 ∧ i + 4 ≤ l.length ∧ AN = if prnN v = true then .byte i else runW (.quote o (x ++ [UInt8.ofNat v])) ws (i + 4) (l.drop (i + 4))

theorem Inn.next {AN : Ans} {l : List UInt8} {o i : Nat} {x : List UInt8} {ws : Ws} {j v d : Nat} (h : Inn AN l o i x ws j v) (hj : j < 2) (hl : i + 2 + j < l.length) (hd : hexN (l.getD (i + 2 + j) 0).toNat = some d) : Inn AN l o i x ws (j + 1) (16 * v + d) := by
  have hlt := hexN_lt hd
  match j with
  | 0 =>
    obtain ⟨rfl, h⟩ := h
    refine ⟨by omega, ?_⟩
    rw [h, runW_go hl (s' := .low o x i d) (ws' := ws) (by simp only [stepW]; rw [show i + 2 + 0 = i + 2 from rfl] at hd; rw [hd])]
    simp
  | 1 =>
    obtain ⟨h1, h⟩ := h
    refine ⟨by omega, by omega, ?_⟩
    rw [h]
    by_cases hp : prnN (16 * v + d) = true
    · rw [if_pos hp, runW_bad hl (j := i) (by simp only [stepW]; rw [show i + 2 + 1 = i + 3 from rfl] at hd; rw [hd]; simp only; rw [if_pos hp])]
    · rw [if_neg hp, runW_go hl (s' := .quote o (x ++ [UInt8.ofNat (16 * v + d)])) (ws' := ws) (by simp only [stepW]; rw [show i + 2 + 1 = i + 3 from rfl] at hd; rw [hd]; simp only; rw [if_neg hp])]
  | j + 2 => omega
theorem Inn.bad {AN : Ans} {l : List UInt8} {o i : Nat} {x : List UInt8} {ws : Ws} {j v : Nat} (h : Inn AN l o i x ws j v) (hj : j < 2) (hl : i + 2 + j < l.length) (hd : hexN (l.getD (i + 2 + j) 0).toNat = none) : AN = .byte (i + 2 + j) := by
  match j with
  | 0 => rw [h.2]; exact runW_bad hl (by simp only [stepW]; rw [show i + 2 + 0 = i + 2 from rfl] at hd; rw [hd])
  | 1 => rw [h.2]; exact runW_bad hl (by simp only [stepW]; rw [show i + 2 + 1 = i + 3 from rfl] at hd; rw [hd])
  | j + 2 => omega
theorem Inn.stop {AN : Ans} {l : List UInt8} {o i : Nat} {x : List UInt8} {ws : Ws} {j v : Nat} (h : Inn AN l o i x ws j v) (hj : j < 2) (hl : l.length ≤ i + 2 + j) : AN = .stop (i + 2 + j) := by
  match j with
  | 0 => rw [h.2]; exact runW_end hl
  | 1 => rw [h.2]; exact runW_end hl
  | j + 2 => omega
theorem Inn.small {AN : Ans} {l : List UInt8} {o i : Nat} {x : List UInt8} {ws : Ws} {j v : Nat} (h : Inn AN l o i x ws j v) : v < 256 := by
  match j with
  | 0 => have := h.1; omega
  | 1 => have := h.1; omega
  | j + 2 => exact h.1
end Go.Proofs.YtdhkdniddjnigaaGreatDoor

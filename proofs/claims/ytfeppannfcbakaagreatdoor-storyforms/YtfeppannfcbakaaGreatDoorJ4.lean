import Derived.Test.YtfeppannfcbakaaGreatDoorBd
import Derived.Test.YtfeppannfcbakaaGreatDoorEv2
namespace Go.Proofs.YtfeppannfcbakaaGreatDoor
open Go.RowKit
set_option linter.unusedVariables false

theorem Tryz.extra169 : Builder.Extra Tryz.prog Tryz.lays169_ren := {
  sizeBuilder := by kernel_rfl
  liesBuilder := by kernel_rfl
  t5 := Tryz.underlying5
  a5 := Tryz.isAgg5
  z5 := Tryz.sizeOf5
  v5 := Tryz.zeroValue5
  infoByte := by kernel_rfl
  cellsByte := by kernel_rfl
  sizeByte := by kernel_rfl
  neB5 := by decide }
theorem byteCells_eq (l : List UInt8) : Lib.byteCells l = cellsB l := by simp [Lib.byteCells, cellsB]
theorem String_any {B : Nat} {l : List UInt8} {w : World} (h : Bd B l w) : Calls Tryz.prog 58 #[ptr B] w fun e w' => e = .returned (.string ⟨l.toArray⟩) ∧ Below B w w' := by
  have hB := h.lt
  have := Any.Builder_String_any_k Tryz.lays169 Tryz.extra169 B B l w (by rw [byteCells_eq]; exact Lib.IsBuilderF.of h) (by omega)
  refine Calls.mono this ?_
  rintro e w' ⟨h1, _, h2, _⟩
  exact ⟨h1, h2⟩

theorem idx_hex {n : Nat} (h : n < 16) (W : World) : (Instr.index 9 (.string ⟨#[48, 49, 50, 51, 52, 53, 54, 55, 56, 57, 97, 98, 99, 100, 101, 102]⟩) (.int .u8 (n : Int))).run Tryz.prog W = .ok (.int .u8 ((hexD n).toNat : Int)) W := by
  have hs : (⟨#[48, 49, 50, 51, 52, 53, 54, 55, 56, 57, 97, 98, 99, 100, 101, 102]⟩ : ByteArray).size = 16 := rfl
  rw [run_index_string W 9 _ _ _ Tryz.underlying9, dif_pos ⟨by omega, by rw [hs]; omega⟩]
  congr 3
  have hh : ∀ a : Fin 16, ((⟨#[48, 49, 50, 51, 52, 53, 54, 55, 56, 57, 97, 98, 99, 100, 101, 102]⟩ : ByteArray)[a.val]'(show a.val < 16 from a.isLt)).toNat = (hexD a.val).toNat := by decide +kernel
  have := hh ⟨n, h⟩
  simpa using this
theorem shr4 (n : Nat) (h : n < 256) : ((n : Int) / 16) = ((n / 16 : Nat) : Int) := by omega
theorem and15 (n : Nat) (h : n < 256) : bits BinOp.and IntKind.u8 (n : Int) 15 = ((n % 16 : Nat) : Int) := by
  have hh : ∀ a : Fin 256, bits BinOp.and IntKind.u8 (a.val : Int) 15 = ((a.val % 16 : Nat) : Int) := by decide +kernel
  exact hh ⟨n, h⟩

set_option maxHeartbeats 1000000 in
set_option maxRecDepth 1000000 in
theorem writeQuoted_any {B : Nat} {l : List UInt8} {b : UInt8} {w : World} (h : Bd B l w) (hl : l.length + 4 ≤ 140737488355328) :
    Calls Tryz.prog 93 #[ptr B, .int .u8 (b.toNat : Int)] w fun e w' => e = .returned (.tuple #[]) ∧ Bd B (l ++ escB b) w' ∧ Below B w w' := by
  have P := hid (prn_any b w)
  have hb := b.toNat_lt
  cases hp : prnN b.toNat with
  | false =>
    have e1 : escB b = [92, 120, hexD (b.toNat / 16), hexD (b.toNat % 16)] := by unfold escB; rw [hp, if_neg (by simp)]
    rw [e1]
    have C1 := hid (WriteString_any (x := [92, 120]) h (by simp; omega))
    have i1 := idx_hex (n := b.toNat / 16) (by omega)
    have i2 := idx_hex (n := b.toNat % 16) (by omega)
    have a15 := and15 b.toNat (by omega)
    have s4 := shr4 b.toNat (by omega)
    clear e1 h
    generalize b.toNat / 16 = n1 at *
    generalize b.toNat % 16 = n2 at *
    generalize hexD n1 = d1 at *
    generalize hexD n2 = d2 at *
    generalize (b.toNat : Int) = bi at *
    go_enter Tryz.func93, Tryz.ntmps93
    go_wp2_with (first | (go_at_call 123; refine P.out.mono ?_; rintro e w1 ⟨rfl, rfl⟩; rw [hp]) | (go_at_call 92; refine C1.out.mono ?_; rintro e w1 ⟨rfl, A1, B1⟩; have C2 := hid (WriteByte_any (b := d1) A1 (by simp; omega)); have BB1 := hid B1; clear A1 B1; refine Hid.out ?_))
    refine hid ?_
    go_wp2_with (go_at_call 56; refine C2.out.mono ?_; rintro e w2 ⟨rfl, A2, B2⟩; have C3 := hid (WriteByte_any (b := d2) A2 (by simp; omega)); have BB2 := hid (BB1.out.trans B2); clear A2 B2; refine Hid.out ?_)
    refine hid ?_
    go_wp2_with (go_at_call 56; refine C3.out.mono ?_; rintro e w3 ⟨rfl, A3, B3⟩; have AA3 := hid A3; have BB3 := hid (BB2.out.trans B3); clear A3 B3)
    refine bodyPost_ret (results_none rfl _ _ _) rfl ?_
    exact ⟨rfl, by simpa using AA3.out, BB3.out⟩
  | true =>
    by_cases hq : b.toNat = 34 ∨ b.toNat = 92
    · have e1 : escB b = [92, b] := by unfold escB; rw [hp, if_pos rfl, if_pos hq]
      rw [e1]
      have C1 := hid (WriteByte_any (b := 92) h (by omega))
      have c92 : ((92 : UInt8).toNat : Int) = 92 := by decide
      rw [c92] at C1
      have NB : Hid (∀ w1, Bd B (l ++ [92]) w1 → Calls Tryz.prog 56 #[ptr B, .int .u8 (b.toNat : Int)] w1 fun e w' => e = .returned .nilIface ∧ Bd B (l ++ [92] ++ [b]) w' ∧ Below B w1 w') := hid (fun w1 h1 => WriteByte_any (b := b) h1 (by simp; omega))
      clear e1 h c92
      by_cases h34 : b.toNat = 34
      · have bi : (b.toNat : Int) = 34 := by omega
        rw [bi] at P NB ⊢
        clear bi h34 hq
        go_enter Tryz.func93, Tryz.ntmps93
        go_wp2_with (first | (go_at_call 123; refine P.out.mono ?_; rintro e w1 ⟨rfl, rfl⟩; rw [hp]) | (go_at_call 56; refine C1.out.mono ?_; rintro e w1 ⟨rfl, A1, B1⟩; have C2 := hid (NB.out w1 A1); have BB1 := hid B1; clear A1 B1; refine Hid.out ?_))
        refine hid ?_
        go_wp2_with (go_at_call 56; refine C2.out.mono ?_; rintro e w2 ⟨rfl, A2, B2⟩; have AA2 := hid A2; have BB2 := hid (BB1.out.trans B2); clear A2 B2)
        go_end0
        exact ⟨rfl, by simpa using AA2.out, BB2.out⟩
      · have bi : (b.toNat : Int) = 92 := by omega
        rw [bi] at P NB ⊢
        clear bi h34 hq
        go_enter Tryz.func93, Tryz.ntmps93
        go_wp2_with (first | (go_at_call 123; refine P.out.mono ?_; rintro e w1 ⟨rfl, rfl⟩; rw [hp]) | (go_at_call 56; refine C1.out.mono ?_; rintro e w1 ⟨rfl, A1, B1⟩; have C2 := hid (NB.out w1 A1); have BB1 := hid B1; clear A1 B1; refine Hid.out ?_))
        refine hid ?_
        go_wp2_with (go_at_call 56; refine C2.out.mono ?_; rintro e w2 ⟨rfl, A2, B2⟩; have AA2 := hid A2; have BB2 := hid (BB1.out.trans B2); clear A2 B2)
        go_end0
        exact ⟨rfl, by simpa using AA2.out, BB2.out⟩
    · have e1 : escB b = [b] := by unfold escB; rw [hp, if_pos rfl, if_neg hq]
      rw [e1]
      have C1 := hid (WriteByte_any (b := b) h (by omega))
      have n34 : ((b.toNat : Int) == 34) = false := by simp; omega
      have n92 : ((b.toNat : Int) == 92) = false := by simp; omega
      clear e1 h hq hb
      generalize (b.toNat : Int) = bi at *
      go_enter Tryz.func93, Tryz.ntmps93
      go_wp2_with (first | (go_at_call 123; refine P.out.mono ?_; rintro e w1 ⟨rfl, rfl⟩; rw [hp]) | (go_at_call 56; refine C1.out.mono ?_; rintro e w1 ⟨rfl, A1, B1⟩; have AA1 := hid A1; have BB1 := hid B1; clear A1 B1))
      go_end0
      exact ⟨rfl, AA1.out, BB1.out⟩
end Go.Proofs.YtfeppannfcbakaaGreatDoor

namespace Go.Proofs.YtfeppannfcbakaaGreatDoor
open Go.RowKit
set_option linter.unusedVariables false

theorem escB_len (b : UInt8) : (escB b).length ≤ 4 ∧ 1 ≤ (escB b).length := by
  unfold escB
  split
  · split <;> simp
  · simp
theorem escW_take {x : List UInt8} {k : Nat} (hk : k < x.length) : escW (x.take (k + 1)) = escW (x.take k) ++ escB (x.getD k 0) := by
  rw [take_snocB hk, escW_snoc]
theorem escW_len (x : List UInt8) : (escW x).length ≤ 4 * x.length := by
  induction x with
  | nil => simp [escW]
  | cons b r ih =>
    have e : escW (b :: r) = escB b ++ escW r := by simp [escW]
    have := (escB_len b).1
    rw [e, List.length_append, List.length_cons]
    omega

set_option maxHeartbeats 1000000 in
set_option maxRecDepth 1000000 in
theorem write_any {B : Nat} {l x : List UInt8} {w : World} (h : Bd B l w) (hl : l.length + 4 * x.length + 10 ≤ 140737488355328) :
    Calls Tryz.prog 57 #[ptr B, .string ⟨x.toArray⟩] w fun e w' => e = .returned (.tuple #[]) ∧ Bd B (l ++ wrtW x) w' ∧ Below B w w' := by
  have I := hid (isBareWord_any (l := x) (w := w) (by omega))
  have hz : (⟨x.toArray⟩ : ByteArray).size = x.length := by simp [ByteArray.size]
  cases hx : isBareW x with
  | true =>
    have e1 : wrtW x = x := by unfold wrtW; rw [hx, if_pos rfl]
    rw [e1]
    have C := hid (WriteString_any (x := x) h (by omega))
    clear e1 h
    generalize ByteArray.mk x.toArray = X at *
    go_enter Tryz.func57, Tryz.ntmps57
    go_wp2_with (first | (go_at_call 91; refine I.out.mono ?_; rintro e w1 ⟨rfl, rfl⟩; rw [hx]) | (go_at_call 92; refine C.out.mono ?_; rintro e w1 ⟨rfl, A1, B1⟩; have AA := hid A1; have BB := hid B1; clear A1 B1))
    refine bodyPost_ret (results_none rfl _ _ _) rfl ?_
    exact ⟨rfl, AA.out, BB.out⟩
  | false =>
    have e1 : wrtW x = 34 :: (escW x ++ [34]) := by unfold wrtW; rw [hx, if_neg (by simp)]
    rw [e1]
    have c34 : ((34 : UInt8).toNat : Int) = 34 := by decide
    have C := hid (WriteByte_any (b := 34) h (by omega))
    rw [c34] at C
    have IX : Hid (∀ k, k < x.length → ∀ W, (Instr.index 9 (.string ⟨x.toArray⟩) (.int .i64 (k : Int))).run Tryz.prog W = .ok (.int .u8 ((x.getD k 0).toNat : Int)) W) := fun k hk W => idx_at hk W
    have WQ : Hid (∀ k W, k < x.length → Bd B (l ++ [34] ++ escW (x.take k)) W → Calls Tryz.prog 93 #[ptr B, .int .u8 ((x.getD k 0).toNat : Int)] W fun e w' => e = .returned (.tuple #[]) ∧ Bd B (l ++ [34] ++ escW (x.take (k + 1))) w' ∧ Below B W w') := hid (fun k W hk hb => by
      have h1 := escW_len (x.take k)
      have h2 : (x.take k).length = k := by simp; omega
      have := writeQuoted_any (b := x.getD k 0) hb (by simp only [List.length_append, List.length_cons, List.length_nil]; omega)
      rw [escW_take hk, ← List.append_assoc]
      exact this)
    have WE : Hid (∀ W, Bd B (l ++ [34] ++ escW (x.take x.length)) W → Calls Tryz.prog 56 #[ptr B, .int .u8 34] W fun e w' => e = .returned .nilIface ∧ Bd B (l ++ (34 :: (escW x ++ [34]))) w' ∧ Below B W w') := hid (fun W hb => by
      have h1 := escW_len x
      rw [List.take_length] at hb
      have := WriteByte_any (b := 34) hb (by simp only [List.length_append, List.length_cons, List.length_nil]; omega)
      rw [c34] at this
      have e2 : l ++ (34 :: (escW x ++ [34])) = l ++ [34] ++ escW x ++ [34] := by simp
      rw [e2]
      exact this)
    have E0 : Hid (escW (x.take 0) = []) := hid (by simp [escW])
    clear e1 h c34
    generalize ByteArray.mk x.toArray = X at *
    generalize hn : x.length = n at *
    clear hn
    go_enter Tryz.func57, Tryz.ntmps57
    go_wp2_with (first | (go_at_call 91; refine I.out.mono ?_; rintro e w1 ⟨rfl, hw1⟩; subst w1; rw [hx]) | (go_at_call 56; refine C.out.mono ?_; rintro e w1 ⟨rfl, A1, B1⟩; have AA := hid A1; have BB := hid B1; clear A1 B1; refine Hid.out ?_))
    refine hid ?_
    go_wp2
    go_loopw [14] (fun iv wr => ∃ k : Nat, k ≤ n ∧ iv = .int .i64 (k : Int) ∧ Hid (Bd B (l ++ [34] ++ escW (x.take k)) wr) ∧ Hid (Below B w wr)) (fun iv _ => n - (intOf iv).toNat)
    case atStart => exact ⟨0, by omega, rfl, hid (by rw [E0.out, List.append_nil]; exact AA.out), BB⟩
    case round =>
      obtain ⟨k, hk, rfl, hA, hB⟩ := hrel
      by_cases hlt : k < n
      · have ix := IX.out k hlt
        have Q := hid (WQ.out k wr hlt hA.out)
        have hlt' : (k : Int) < (n : Int) := by omega
        generalize ((x.getD k 0).toNat : Int) = bi at *
        go_wp2_with (go_at_call 93; refine Q.out.mono ?_; rintro e w2 ⟨rfl, A2, B2⟩; have AA2 := hid A2; have BB2 := hid (hB.out.trans B2); clear A2 B2)
        go_roundw
        case rel => exact ⟨k + 1, by omega, by go_num, AA2, BB2⟩
        case measure => simp [intOf]; omega
      · have hlt' : ¬ (k : Int) < (n : Int) := by omega
        have ek : k = n := by omega
        have Q := hid (WE.out wr (by rw [← ek]; exact hA.out))
        clear ek
        go_wp2_with (go_at_call 56; refine Q.out.mono ?_; rintro e w2 ⟨rfl, A2, B2⟩; have AA2 := hid A2; have BB2 := hid (hB.out.trans B2); clear A2 B2)
        go_end0
        exact ⟨rfl, AA2.out, BB2.out⟩

theorem wrtW_len (x : List UInt8) : (wrtW x).length ≤ 4 * x.length + 2 := by
  unfold wrtW
  split
  · omega
  · have := escW_len x
    simp only [List.length_cons, List.length_append, List.length_nil]
    omega
/-- How long a line of words may be. -/
def lenJ (ws : Ws) : Nat := (ws.map fun x => 4 * x.length + 16).sum
theorem take_snoc {ws : Ws} {k : Nat} (hk : k < ws.length) : ws.take (k + 1) = ws.take k ++ [ws.getD k []] := by
  rw [List.take_add_one, List.getElem?_eq_getElem hk]
  simp [List.getD, hk]
theorem lenJ_take {ws : Ws} {k : Nat} (hk : k < ws.length) : lenJ (ws.take (k + 1)) = lenJ (ws.take k) + (4 * (ws.getD k []).length + 16) := by
  rw [take_snoc hk]
  unfold lenJ
  rw [List.map_append, List.sum_append]
  simp
theorem lenJ_le : ∀ (ws : Ws) (k : Nat), lenJ (ws.take k) ≤ lenJ ws
  | [], k => by simp [lenJ]
  | x :: r, 0 => by simp [lenJ]
  | x :: r, k + 1 => by
    have := lenJ_le r k
    simp only [lenJ, List.take_succ_cons, List.map_cons, List.sum_cons] at this ⊢
    omega
theorem preW_len (ws : Ws) : (preW ws).length ≤ (joinW ws).length + 1 := by
  unfold preW
  split <;> simp
theorem joinW_len : ∀ (ws : Ws) (k : Nat), k ≤ ws.length → (joinW (ws.take k)).length ≤ lenJ (ws.take k)
  | ws, 0, h => by simp [joinW]
  | ws, k + 1, h => by
    have ih := joinW_len ws k (by omega)
    rw [lenJ_take (by omega), take_snoc (by omega), joinW_snoc, List.length_append]
    have h1 := preW_len (ws.take k)
    have h2 := wrtW_len (ws.getD k [])
    omega

set_option maxHeartbeats 1600000 in
set_option maxRecDepth 1000000 in
theorem Join_any {s : Value} {ws : Ws} {w : World} (hs : Rt w s ws) (hn : ws.length ≤ 140737488355328) (hl : lenJ ws ≤ 100000000000000) :
    Calls Tryz.prog 29 #[s] w fun e w' => e = .returned (.string ⟨(joinW ws).toArray⟩) ∧ Below w.heap.size w w' := by
  obtain ⟨ao, c, rfl⟩ := hs.form
  have HS := hid hs
  have b0 : Hid (Bd w.heap.size (joinW (ws.take 0)) (w.alloc (.cells #[.pointer none, .slice none 0 0] 106))) := hid (Or.inl ⟨Nat.le_refl _, .slice none 0 0, heap_alloc_new w _, by simpa [joinW, cellsB] using World.ownsRow_nil _ _ 5 1, by simp [Value.ownBlock]⟩)
  have bel0 := hid (ba w (.cells #[.pointer none, .slice none 0 0] 106))
  have c32 : ((32 : UInt8).toNat : Int) = 32 := by decide
  have SP : Hid (∀ k W, 0 < k → k < ws.length → Bd w.heap.size (joinW (ws.take k)) W → Calls Tryz.prog 56 #[ptr w.heap.size, .int .u8 32] W fun e w' => e = .returned .nilIface ∧ Bd w.heap.size (preW (ws.take k)) w' ∧ Below w.heap.size W w') := hid (fun k W h0 hk hb => by
    have h1 := joinW_len ws k (by omega)
    have h2 := lenJ_le ws k
    have := WriteByte_any (b := 32) hb (by omega)
    rw [c32] at this
    have e2 : preW (ws.take k) = joinW (ws.take k) ++ [32] := by
      unfold preW
      rw [if_neg (fun e => by have := congrArg List.length e; rw [List.length_take, List.length_nil] at this; omega)]
    rw [e2]
    exact this)
  have WR : Hid (∀ k W, k < ws.length → Bd w.heap.size (preW (ws.take k)) W → Calls Tryz.prog 57 #[ptr w.heap.size, .string ⟨(ws.getD k []).toArray⟩] W fun e w' => e = .returned (.tuple #[]) ∧ Bd w.heap.size (joinW (ws.take (k + 1))) w' ∧ Below w.heap.size W w') := hid (fun k W hk hb => by
    have h1 := joinW_len ws k (by omega)
    have h2 := lenJ_le ws (k + 1)
    rw [lenJ_take hk] at h2
    have h3 := preW_len (ws.take k)
    have := write_any (x := ws.getD k []) hb (by omega)
    rw [take_snoc hk, joinW_snoc]
    exact this)
  have P0 : Hid (preW (ws.take 0) = joinW (ws.take 0)) := hid (by simp [preW, joinW])
  have FN : Hid (∀ W, Bd w.heap.size (joinW (ws.take ws.length)) W → Calls Tryz.prog 58 #[ptr w.heap.size] W fun e w' => e = .returned (.string ⟨(joinW ws).toArray⟩) ∧ Below w.heap.size W w') := hid (fun W hb => by
    rw [List.take_length] at hb
    exact String_any hb)
  clear hs c32 hl
  generalize hJ : ByteArray.mk (joinW ws).toArray = J at *
  clear hJ
  generalize hnw : ws.length = n at *
  have HN := hid hnw
  clear hnw
  go_enter Tryz.func29, Tryz.ntmps29
  go_wp2
  go_loopw [8] (fun iv wr => ∃ k : Nat, k ≤ n ∧ iv = .int .i64 (k : Int) ∧ Hid (Bd w.heap.size (joinW (ws.take k)) wr) ∧ Hid (Below w.heap.size w wr)) (fun iv _ => n - (intOf iv).toNat)
  case atStart => exact ⟨0, by omega, rfl, b0, bel0⟩
  case round =>
    obtain ⟨k, hk, rfl, hA, hB⟩ := hrel
    by_cases hlt : k < n
    · obtain ⟨g, o, rfl, _, h1⟩ := (HS.out.later hB.out).at (j := k) (by rw [HN.out]; exact hlt)
      have hlt' : (k : Int) < (n : Int) := by omega
      by_cases h0 : k = 0
      · have Q := hid (WR.out k wr hlt (by have := hA.out; rw [h0] at this ⊢; rw [P0.out]; exact this))
        have hz : ¬ (0 : Int) < (k : Int) := by omega
        generalize ByteArray.mk (ws.getD k []).toArray = X at *
        clear h0
        go_wp2_with (go_at_call 57; refine Q.out.mono ?_; rintro e w2 ⟨rfl, A2, B2⟩; have AA2 := hid A2; have BB2 := hid (hB.out.trans B2); clear A2 B2)
        go_roundw
        case rel => exact ⟨k + 1, by omega, by go_num, AA2, BB2⟩
        case measure => simp [intOf]; omega
      · have Q := hid (SP.out k wr (by omega) hlt hA.out)
        have hz : (0 : Int) < (k : Int) := by omega
        have WK := hid (fun W hW => WR.out k W hlt hW)
        clear h0
        generalize ByteArray.mk (ws.getD k []).toArray = X at *
        go_wp2_with (go_at_call 56; refine Q.out.mono ?_; rintro e w2 ⟨rfl, A2, B2⟩; have Q2 := hid (WK.out w2 A2); have BB2 := hid (hB.out.trans B2); clear A2 B2; refine Hid.out ?_)
        refine hid ?_
        go_wp2_with (go_at_call 57; refine Q2.out.mono ?_; rintro e w3 ⟨rfl, A3, B3⟩; have AA3 := hid A3; have BB3 := hid (BB2.out.trans B3); clear A3 B3)
        go_roundw
        case rel => exact ⟨k + 1, by omega, by go_num, AA3, BB3⟩
        case measure => simp [intOf]; omega
    · have hlt' : ¬ (k : Int) < (n : Int) := by omega
      have ek : k = n := by omega
      have Q := hid (FN.out wr (by rw [← ek]; exact hA.out))
      clear ek
      go_wp2_with (go_at_call 58; refine Q.out.mono ?_; rintro e w2 ⟨rfl, B2⟩; have BB2 := hid (hB.out.trans B2); clear B2)
      go_ret
      exact ⟨rfl, BB2.out⟩
end Go.Proofs.YtfeppannfcbakaaGreatDoor

namespace Go.Proofs.YtfeppannfcbakaaGreatDoor
open Go.RowKit
set_option linter.unusedVariables false
set_option maxRecDepth 100000

/-- A list of bytes that is read. -/
def BRd (w : World) (s : Value) (l : List UInt8) : Prop :=
  ∃ ao c, s = .slice ao l.length c ∧ l.length ≤ c ∧ (l = [] ∨ ∃ g o, ao = some ⟨g, o, none⟩ ∧ g < w.heap.size ∧ ∀ j b, l[j]? = some b → w.cell? ⟨g, o + j, none⟩ = some (.int .u8 (b.toNat : Int)))
theorem BRd.later {w w' : World} {s : Value} {l : List UInt8} (h : BRd w s l) (hb : Below w.heap.size w w') : BRd w' s l := by
  obtain ⟨ao, c, e, hc, hx⟩ := h
  refine ⟨ao, c, e, hc, hx.imp id ?_⟩
  rintro ⟨g, o, ea, hg, hcell⟩
  exact ⟨g, o, ea, Nat.lt_of_lt_of_le hg hb.size, fun j b hj => cell_under hb hg (hcell j b hj)⟩
theorem BRd.form {w : World} {s : Value} {l : List UInt8} (h : BRd w s l) : ∃ ao c, s = .slice ao l.length c := by obtain ⟨ao, c, e, _⟩ := h; exact ⟨ao, c, e⟩
theorem BRd.at {w : World} {ao : Option Addr} {n c : Nat} {l : List UInt8} (h : BRd w (.slice ao n c) l) {j : Nat} (hj : j < l.length) : ∃ g o b, ao = some ⟨g, o, none⟩ ∧ l[j]? = some b ∧ w.cell? ⟨g, o + j, none⟩ = some (.int .u8 (b.toNat : Int)) := by
  obtain ⟨a1, c1, e, hc, hx⟩ := h
  injection e with e1 e2 e3
  subst e1
  rcases hx with rfl | ⟨g, o, ea, hg, hcell⟩
  · simp at hj
  · exact ⟨g, o, l[j], ea, List.getElem?_eq_getElem hj, hcell j _ (List.getElem?_eq_getElem hj)⟩
/-- The digits of a byte, of bytes. -/
def hxD : List UInt8 := [48, 49, 50, 51, 52, 53, 54, 55, 56, 57, 97, 98, 99, 100, 101, 102]
def hexB (b : UInt8) : List UInt8 := [hxD.getD (b.toNat / 16) 0, hxD.getD (b.toNat % 16) 0]
def hexW (l : List UInt8) : List UInt8 := l.flatMap hexB
def flagW (b : Bool) : List UInt8 := if b then [102, 114, 101, 115, 104] else [111, 108, 100]
theorem flag_any (b : Bool) (w : World) : Calls Tryz.prog 86 #[.bool b] w fun e w' => e = .returned (.string ⟨(flagW b).toArray⟩) ∧ w' = w := by
  cases b
  all_goals
    go_enter Tryz.func86, Tryz.ntmps86
    go_wp2
    go_ret
    exact ⟨rfl, rfl⟩
theorem hexW_snoc {l : List UInt8} {j : Nat} {b : UInt8} (h : l[j]? = some b) : hexW (l.take (j + 1)) = hexW (l.take j) ++ [hxD.getD (b.toNat / 16) 0] ++ [hxD.getD (b.toNat % 16) 0] := by
  rw [List.take_add_one, h]; simp [hexW, hexB]
theorem hexW_len (l : List UInt8) : (hexW l).length = 2 * l.length := by
  induction l with
  | nil => rfl
  | cons b r ih =>
    have : hexW (b :: r) = hexB b ++ hexW r := rfl
    rw [this, List.length_append, ih, List.length_cons]
    show 2 + _ = _
    omega
theorem hx_at (i : Nat) (h : i < (ByteArray.mk #[48, 49, 50, 51, 52, 53, 54, 55, 56, 57, 97, 98, 99, 100, 101, 102]).size) : (ByteArray.mk #[48, 49, 50, 51, 52, 53, 54, 55, 56, 57, 97, 98, 99, 100, 101, 102])[i] = hxD.getD i 0 := by
  have h' : i < hxD.length := h
  rw [List.getD_eq_getElem?_getD, List.getElem?_eq_getElem h']
  rfl
set_option maxHeartbeats 1600000 in
set_option maxRecDepth 1000000 in
theorem dataWord_any {s : Value} {l : List UInt8} {w : World} (hs : BRd w s l) (hl : l.length ≤ 10000000) :
    Calls Tryz.prog 87 #[s] w fun e w' => e = .returned (.string ⟨(hexW l).toArray⟩) ∧ Below w.heap.size w w' := by
  obtain ⟨ao, c, rfl⟩ := hs.form
  have HS := hid hs
  have b0 : Hid (Bd w.heap.size (hexW (l.take 0)) (w.alloc (.cells #[.pointer none, .slice none 0 0] 106))) := hid (Or.inl ⟨Nat.le_refl _, .slice none 0 0, heap_alloc_new w _, by simpa [hexW, cellsB] using World.ownsRow_nil _ _ 5 1, by simp [Value.ownBlock]⟩)
  have bel0 : Hid (Below w.heap.size w (w.alloc (.cells #[.pointer none, .slice none 0 0] 106))) := hid (ba w _)
  have FN : Hid (∀ W, Bd w.heap.size (hexW (l.take l.length)) W → Calls Tryz.prog 58 #[ptr w.heap.size] W fun e w' => e = .returned (.string ⟨(hexW l).toArray⟩) ∧ Below w.heap.size W w') := hid (fun W hb => by
    rw [List.take_length] at hb
    exact String_any hb)
  have HL := hid hl
  clear hs
  generalize hJ : ByteArray.mk (hexW l).toArray = J at *
  clear hJ
  generalize hnw : l.length = n at *
  have HN := hid hnw
  clear hnw
  go_enter Tryz.func87, Tryz.ntmps87
  go_wp2
  go_loopw [8] (fun iv wr => ∃ k : Nat, k ≤ n ∧ iv = .int .i64 (k : Int) ∧ Hid (Bd w.heap.size (hexW (l.take k)) wr) ∧ Hid (Below w.heap.size w wr)) (fun iv _ => n - (intOf iv).toNat)
  case atStart => exact ⟨0, by omega, rfl, b0, bel0⟩
  case round =>
    obtain ⟨k, hk, rfl, hA, hB⟩ := hrel
    clear b0 bel0
    by_cases hlt : k < n
    · obtain ⟨g, o, b, rfl, hb, hcb⟩ := (HS.out.later hB.out).at (j := k) (by rw [HN.out]; exact hlt)
      have hlt' : (k : Int) < (n : Int) := by omega
      have hb8 := b.toNat_lt
      have LN : Hid ((hexW (l.take k)).length + 2 ≤ 140737488355328) := hid (by rw [hexW_len, List.length_take]; have := HL.out; omega)
      have NX := hid (hexW_snoc hb)
      clear hb
      go_wp2_with (first | (go_at_call 56; refine (WriteByte_any hA.out (by have := LN.out; omega)).mono ?_; rintro e w1 ⟨rfl, hA1, hB1⟩; have A1 := hid hA1; have B1 := hid (hB.out.trans hB1); clear hA1 hB1 hA) | (go_at_call 56; refine (WriteByte_any A1.out (by have := LN.out; simp; omega)).mono ?_; rintro e w2 ⟨rfl, hA2, hB2⟩; have A2 := hid hA2; have B2 := hid (B1.out.trans hB2); clear hA2 hB2))
      go_roundw
      case rel => exact ⟨k + 1, by omega, by go_num, hid (by rw [NX.out, ← hx_at _ (by show _ < 16; omega), ← hx_at _ (by show _ < 16; omega)]; exact A2.out), B2⟩
      case measure => simp [intOf]; omega
    · have hlt' : ¬ (k : Int) < (n : Int) := by omega
      have ek : k = n := by omega
      have AN : Hid (Bd w.heap.size (hexW (l.take n)) wr) := hid (by rw [← ek]; exact hA.out)
      clear ek hA
      go_wp2_with (go_at_call 58; refine (FN.out _ AN.out).mono ?_; rintro e w2 ⟨rfl, hB2⟩; have B2 := hid (hB.out.trans hB2); clear hB2)
      go_ret
      exact ⟨rfl, B2.out⟩
end Go.Proofs.YtfeppannfcbakaaGreatDoor

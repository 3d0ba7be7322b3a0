import Derived.Test.YtdhkdniddjnigaaGreatDoorJ5
import Derived.Deep.RegionHeld3
import Derived.Test.YtdhkdniddjnigaaGreatDoorJ2
import Derived.Test.YtdhkdniddjnigaaGreatDoorJ3
namespace Go.Proofs.YtdhkdniddjnigaaGreatDoor
open Go.RowKit
set_option linter.unusedVariables false

theorem Tryz.extra169 : Builder.Extra Tryz.prog Tryz.lays169_ren := {
  sizeBuilder := by kernel_rfl
  liesBuilder := by kernel_rfl
  t5 := Tryz.underlying5
  a5 := Tryz.isAgg5
  z5 := Tryz.sizeOf5
  v5 := Tryz.zeroValue5
  infoByte := by kernel_rfl
  cellsByte := by kernel_rfl
  sizeByte := by kernel_rfl
  neB5 := by decide }
theorem byteCells_eq (l : List UInt8) : Lib.byteCells l = cellsB l := by simp [Lib.byteCells, cellsB]
theorem String_any {B : Nat} {l : List UInt8} {w : World} (h : Bd B l w) : Calls Tryz.prog 134 #[ptr B] w fun e w' => e = .returned (.string ⟨l.toArray⟩) ∧ Below B w w' := by
  have hB := h.lt
  have := Any.Builder_String_any_k Tryz.lays169 Tryz.extra169 B B l w (by rw [byteCells_eq]; exact Lib.IsBuilderF.of h) (by omega)
  refine Calls.mono this ?_
  rintro e w' ⟨h1, _, h2, _⟩
  exact ⟨h1, h2⟩

theorem idx_hex {n : Nat} (h : n < 16) (W : World) : (Instr.index 9 (.string ⟨#[48, 49, 50, 51, 52, 53, 54, 55, 56, 57, 97, 98, 99, 100, 101, 102]⟩) (.int .u8 (n : Int))).run Tryz.prog W = .ok (.int .u8 ((hexD n).toNat : Int)) W := by
  have hs : (⟨#[48, 49, 50, 51, 52, 53, 54, 55, 56, 57, 97, 98, 99, 100, 101, 102]⟩ : ByteArray).size = 16 := rfl
  rw [run_index_string W 9 _ _ _ Tryz.underlying9, dif_pos ⟨by omega, by rw [hs]; omega⟩]
  congr 3
  have hh : ∀ a : Fin 16, ((⟨#[48, 49, 50, 51, 52, 53, 54, 55, 56, 57, 97, 98, 99, 100, 101, 102]⟩ : ByteArray)[a.val]'(show a.val < 16 from a.isLt)).toNat = (hexD a.val).toNat := by decide +kernel
  have := hh ⟨n, h⟩
  simpa using this
theorem shr4 (n : Nat) (h : n < 256) : ((n : Int) / 16) = ((n / 16 : Nat) : Int) := by omega
theorem and15 (n : Nat) (h : n < 256) : bits BinOp.and IntKind.u8 (n : Int) 15 = ((n % 16 : Nat) : Int) := by
  have hh : ∀ a : Fin 256, bits BinOp.and IntKind.u8 (a.val : Int) 15 = ((a.val % 16 : Nat) : Int) := by decide +kernel
  exact hh ⟨n, h⟩

set_option maxHeartbeats 1000000 in
set_option maxRecDepth 1000000 in
theorem writeQuoted_any {B : Nat} {l : List UInt8} {b : UInt8} {w : World} (h : Bd B l w) (hl : l.length + 4 ≤ 140737488355328) :
    Calls Tryz.prog 180 #[ptr B, .int .u8 (b.toNat : Int)] w fun e w' => e = .returned (.tuple #[]) ∧ Bd B (l ++ escB b) w' ∧ Below B w w' := by
  have P := hid (prn_any b w)
  have hb := b.toNat_lt
  cases hp : prnN b.toNat with
  | false =>
    have e1 : escB b = [92, 120, hexD (b.toNat / 16), hexD (b.toNat % 16)] := by unfold escB; rw [hp, if_neg (by simp)]
    rw [e1]
    have C1 := hid (WriteString_any (x := [92, 120]) h (by simp; omega))
    have i1 := idx_hex (n := b.toNat / 16) (by omega)
    have i2 := idx_hex (n := b.toNat % 16) (by omega)
    have a15 := and15 b.toNat (by omega)
    have s4 := shr4 b.toNat (by omega)
    clear e1 h
    generalize b.toNat / 16 = n1 at *
    generalize b.toNat % 16 = n2 at *
    generalize hexD n1 = d1 at *
    generalize hexD n2 = d2 at *
    generalize (b.toNat : Int) = bi at *
    go_enter Tryz.func180, Tryz.ntmps180
    go_wp2_with (first | (go_at_call 206; refine P.out.mono ?_; rintro e w1 ⟨rfl, rfl⟩; rw [hp]) | (go_at_call 179; refine C1.out.mono ?_; rintro e w1 ⟨rfl, A1, B1⟩; have C2 := hid (WriteByte_any (b := d1) A1 (by simp; omega)); have BB1 := hid B1; clear A1 B1; refine Hid.out ?_))
    refine hid ?_
    go_wp2_with (go_at_call 132; refine C2.out.mono ?_; rintro e w2 ⟨rfl, A2, B2⟩; have C3 := hid (WriteByte_any (b := d2) A2 (by simp; omega)); have BB2 := hid (BB1.out.trans B2); clear A2 B2; refine Hid.out ?_)
    refine hid ?_
    go_wp2_with (go_at_call 132; refine C3.out.mono ?_; rintro e w3 ⟨rfl, A3, B3⟩; have AA3 := hid A3; have BB3 := hid (BB2.out.trans B3); clear A3 B3)
    refine bodyPost_ret (results_none rfl _ _ _) rfl ?_
    exact ⟨rfl, by simpa using AA3.out, BB3.out⟩
  | true =>
    by_cases hq : b.toNat = 34 ∨ b.toNat = 92
    · have e1 : escB b = [92, b] := by unfold escB; rw [hp, if_pos rfl, if_pos hq]
      rw [e1]
      have C1 := hid (WriteByte_any (b := 92) h (by omega))
      have c92 : ((92 : UInt8).toNat : Int) = 92 := by decide
      rw [c92] at C1
      have NB : Hid (∀ w1, Bd B (l ++ [92]) w1 → Calls Tryz.prog 132 #[ptr B, .int .u8 (b.toNat : Int)] w1 fun e w' => e = .returned .nilIface ∧ Bd B (l ++ [92] ++ [b]) w' ∧ Below B w1 w') := hid (fun w1 h1 => WriteByte_any (b := b) h1 (by simp; omega))
      clear e1 h c92
      by_cases h34 : b.toNat = 34
      · have bi : (b.toNat : Int) = 34 := by omega
        rw [bi] at P NB ⊢
        clear bi h34 hq
        go_enter Tryz.func180, Tryz.ntmps180
        go_wp2_with (first | (go_at_call 206; refine P.out.mono ?_; rintro e w1 ⟨rfl, rfl⟩; rw [hp]) | (go_at_call 132; refine C1.out.mono ?_; rintro e w1 ⟨rfl, A1, B1⟩; have C2 := hid (NB.out w1 A1); have BB1 := hid B1; clear A1 B1; refine Hid.out ?_))
        refine hid ?_
        go_wp2_with (go_at_call 132; refine C2.out.mono ?_; rintro e w2 ⟨rfl, A2, B2⟩; have AA2 := hid A2; have BB2 := hid (BB1.out.trans B2); clear A2 B2)
        go_end0
        exact ⟨rfl, by simpa using AA2.out, BB2.out⟩
      · have bi : (b.toNat : Int) = 92 := by omega
        rw [bi] at P NB ⊢
        clear bi h34 hq
        go_enter Tryz.func180, Tryz.ntmps180
        go_wp2_with (first | (go_at_call 206; refine P.out.mono ?_; rintro e w1 ⟨rfl, rfl⟩; rw [hp]) | (go_at_call 132; refine C1.out.mono ?_; rintro e w1 ⟨rfl, A1, B1⟩; have C2 := hid (NB.out w1 A1); have BB1 := hid B1; clear A1 B1; refine Hid.out ?_))
        refine hid ?_
        go_wp2_with (go_at_call 132; refine C2.out.mono ?_; rintro e w2 ⟨rfl, A2, B2⟩; have AA2 := hid A2; have BB2 := hid (BB1.out.trans B2); clear A2 B2)
        go_end0
        exact ⟨rfl, by simpa using AA2.out, BB2.out⟩
    · have e1 : escB b = [b] := by unfold escB; rw [hp, if_pos rfl, if_neg hq]
      rw [e1]
      have C1 := hid (WriteByte_any (b := b) h (by omega))
      have n34 : ((b.toNat : Int) == 34) = false := by simp; omega
      have n92 : ((b.toNat : Int) == 92) = false := by simp; omega
      clear e1 h hq hb
      generalize (b.toNat : Int) = bi at *
      go_enter Tryz.func180, Tryz.ntmps180
      go_wp2_with (first | (go_at_call 206; refine P.out.mono ?_; rintro e w1 ⟨rfl, rfl⟩; rw [hp]) | (go_at_call 132; refine C1.out.mono ?_; rintro e w1 ⟨rfl, A1, B1⟩; have AA1 := hid A1; have BB1 := hid B1; clear A1 B1))
      go_end0
      exact ⟨rfl, AA1.out, BB1.out⟩
end Go.Proofs.YtdhkdniddjnigaaGreatDoor

namespace Go.Proofs.YtdhkdniddjnigaaGreatDoor
open Go.RowKit
set_option linter.unusedVariables false

theorem escB_len (b : UInt8) : (escB b).length ≤ 4 ∧ 1 ≤ (escB b).length := by
  unfold escB
  split
  · split <;> simp
  · simp
theorem escW_take {x : List UInt8} {k : Nat} (hk : k < x.length) : escW (x.take (k + 1)) = escW (x.take k) ++ escB (x.getD k 0) := by
  rw [take_snocB hk, escW_snoc]
theorem escW_len (x : List UInt8) : (escW x).length ≤ 4 * x.length := by
  induction x with
  | nil => simp [escW]
  | cons b r ih =>
    have e : escW (b :: r) = escB b ++ escW r := by simp [escW]
    have := (escB_len b).1
    rw [e, List.length_append, List.length_cons]
    omega

set_option maxHeartbeats 1000000 in
set_option maxRecDepth 1000000 in
theorem write_any {B : Nat} {l x : List UInt8} {w : World} (h : Bd B l w) (hl : l.length + 4 * x.length + 10 ≤ 140737488355328) :
    Calls Tryz.prog 133 #[ptr B, .string ⟨x.toArray⟩] w fun e w' => e = .returned (.tuple #[]) ∧ Bd B (l ++ wrtW x) w' ∧ Below B w w' := by
  have I := hid (isBareWord_any (l := x) (w := w) (by omega))
  have hz : (⟨x.toArray⟩ : ByteArray).size = x.length := by simp [ByteArray.size]
  cases hx : isBareW x with
  | true =>
    have e1 : wrtW x = x := by unfold wrtW; rw [hx, if_pos rfl]
    rw [e1]
    have C := hid (WriteString_any (x := x) h (by omega))
    clear e1 h
    generalize ByteArray.mk x.toArray = X at *
    go_enter Tryz.func133, Tryz.ntmps133
    go_wp2_with (first | (go_at_call 178; refine I.out.mono ?_; rintro e w1 ⟨rfl, rfl⟩; rw [hx]) | (go_at_call 179; refine C.out.mono ?_; rintro e w1 ⟨rfl, A1, B1⟩; have AA := hid A1; have BB := hid B1; clear A1 B1))
    refine bodyPost_ret (results_none rfl _ _ _) rfl ?_
    exact ⟨rfl, AA.out, BB.out⟩
  | false =>
    have e1 : wrtW x = 34 :: (escW x ++ [34]) := by unfold wrtW; rw [hx, if_neg (by simp)]
    rw [e1]
    have c34 : ((34 : UInt8).toNat : Int) = 34 := by decide
    have C := hid (WriteByte_any (b := 34) h (by omega))
    rw [c34] at C
    have IX : Hid (∀ k, k < x.length → ∀ W, (Instr.index 9 (.string ⟨x.toArray⟩) (.int .i64 (k : Int))).run Tryz.prog W = .ok (.int .u8 ((x.getD k 0).toNat : Int)) W) := fun k hk W => idx_at hk W
    have WQ : Hid (∀ k W, k < x.length → Bd B (l ++ [34] ++ escW (x.take k)) W → Calls Tryz.prog 180 #[ptr B, .int .u8 ((x.getD k 0).toNat : Int)] W fun e w' => e = .returned (.tuple #[]) ∧ Bd B (l ++ [34] ++ escW (x.take (k + 1))) w' ∧ Below B W w') := hid (fun k W hk hb => by
      have h1 := escW_len (x.take k)
      have h2 : (x.take k).length = k := by simp; omega
      have := writeQuoted_any (b := x.getD k 0) hb (by simp only [List.length_append, List.length_cons, List.length_nil]; omega)
      rw [escW_take hk, ← List.append_assoc]
      exact this)
    have WE : Hid (∀ W, Bd B (l ++ [34] ++ escW (x.take x.length)) W → Calls Tryz.prog 132 #[ptr B, .int .u8 34] W fun e w' => e = .returned .nilIface ∧ Bd B (l ++ (34 :: (escW x ++ [34]))) w' ∧ Below B W w') := hid (fun W hb => by
      have h1 := escW_len x
      rw [List.take_length] at hb
      have := WriteByte_any (b := 34) hb (by simp only [List.length_append, List.length_cons, List.length_nil]; omega)
      rw [c34] at this
      have e2 : l ++ (34 :: (escW x ++ [34])) = l ++ [34] ++ escW x ++ [34] := by simp
      rw [e2]
      exact this)
    have E0 : Hid (escW (x.take 0) = []) := hid (by simp [escW])
    clear e1 h c34
    generalize ByteArray.mk x.toArray = X at *
    generalize hn : x.length = n at *
    clear hn
    go_enter Tryz.func133, Tryz.ntmps133
    go_wp2_with (first | (go_at_call 178; refine I.out.mono ?_; rintro e w1 ⟨rfl, hw1⟩; subst w1; rw [hx]) | (go_at_call 132; refine C.out.mono ?_; rintro e w1 ⟨rfl, A1, B1⟩; have AA := hid A1; have BB := hid B1; clear A1 B1; refine Hid.out ?_))
    refine hid ?_
    go_wp2
    go_loopw [14] (fun iv wr => ∃ k : Nat, k ≤ n ∧ iv = .int .i64 (k : Int) ∧ Hid (Bd B (l ++ [34] ++ escW (x.take k)) wr) ∧ Hid (Below B w wr)) (fun iv _ => n - (intOf iv).toNat)
    case atStart => exact ⟨0, by omega, rfl, hid (by rw [E0.out, List.append_nil]; exact AA.out), BB⟩
    case round =>
      obtain ⟨k, hk, rfl, hA, hB⟩ := hrel
      by_cases hlt : k < n
      · have ix := IX.out k hlt
        have Q := hid (WQ.out k wr hlt hA.out)
        have hlt' : (k : Int) < (n : Int) := by omega
        generalize ((x.getD k 0).toNat : Int) = bi at *
        go_wp2_with (go_at_call 180; refine Q.out.mono ?_; rintro e w2 ⟨rfl, A2, B2⟩; have AA2 := hid A2; have BB2 := hid (hB.out.trans B2); clear A2 B2)
        go_roundw
        case rel => exact ⟨k + 1, by omega, by go_num, AA2, BB2⟩
        case measure => simp [intOf]; omega
      · have hlt' : ¬ (k : Int) < (n : Int) := by omega
        have ek : k = n := by omega
        have Q := hid (WE.out wr (by rw [← ek]; exact hA.out))
        clear ek
        go_wp2_with (go_at_call 132; refine Q.out.mono ?_; rintro e w2 ⟨rfl, A2, B2⟩; have AA2 := hid A2; have BB2 := hid (hB.out.trans B2); clear A2 B2)
        go_end0
        exact ⟨rfl, AA2.out, BB2.out⟩

theorem wrtW_len (x : List UInt8) : (wrtW x).length ≤ 4 * x.length + 2 := by
  unfold wrtW
  split
  · omega
  · have := escW_len x
    simp only [List.length_cons, List.length_append, List.length_nil]
    omega
/-- How long a line of words may be. -/
def lenJ (ws : Ws) : Nat := (ws.map fun x => 4 * x.length + 16).sum
theorem take_snoc {ws : Ws} {k : Nat} (hk : k < ws.length) : ws.take (k + 1) = ws.take k ++ [ws.getD k []] := by
  rw [List.take_add_one, List.getElem?_eq_getElem hk]
  simp [List.getD, hk]
theorem lenJ_take {ws : Ws} {k : Nat} (hk : k < ws.length) : lenJ (ws.take (k + 1)) = lenJ (ws.take k) + (4 * (ws.getD k []).length + 16) := by
  rw [take_snoc hk]
  unfold lenJ
  rw [List.map_append, List.sum_append]
  simp
theorem lenJ_le : ∀ (ws : Ws) (k : Nat), lenJ (ws.take k) ≤ lenJ ws
  | [], k => by simp [lenJ]
  | x :: r, 0 => by simp [lenJ]
  | x :: r, k + 1 => by
    have := lenJ_le r k
    simp only [lenJ, List.take_succ_cons, List.map_cons, List.sum_cons] at this ⊢
    omega
theorem preW_len (ws : Ws) : (preW ws).length ≤ (joinW ws).length + 1 := by
  unfold preW
  split <;> simp
theorem joinW_len : ∀ (ws : Ws) (k : Nat), k ≤ ws.length → (joinW (ws.take k)).length ≤ lenJ (ws.take k)
  | ws, 0, h => by simp [joinW]
  | ws, k + 1, h => by
    have ih := joinW_len ws k (by omega)
    rw [lenJ_take (by omega), take_snoc (by omega), joinW_snoc, List.length_append]
    have h1 := preW_len (ws.take k)
    have h2 := wrtW_len (ws.getD k [])
    omega

set_option maxHeartbeats 1600000 in
set_option maxRecDepth 1000000 in
theorem Join_any {s : Value} {ws : Ws} {w : World} (hs : Rt w s ws) (hn : ws.length ≤ 140737488355328) (hl : lenJ ws ≤ 100000000000000) :
    Calls Tryz.prog 101 #[s] w fun e w' => e = .returned (.string ⟨(joinW ws).toArray⟩) ∧ Below w.heap.size w w' := by
  obtain ⟨ao, c, rfl⟩ := hs.form
  have HS := hid hs
  have b0 : Hid (Bd w.heap.size (joinW (ws.take 0)) (w.alloc (.cells #[.pointer none, .slice none 0 0] 188))) := hid (Or.inl ⟨Nat.le_refl _, .slice none 0 0, heap_alloc_new w _, by simpa [joinW, cellsB] using World.ownsRow_nil _ _ 5 1, by simp [Value.ownBlock]⟩)
  have bel0 := hid (ba w (.cells #[.pointer none, .slice none 0 0] 188))
  have c32 : ((32 : UInt8).toNat : Int) = 32 := by decide
  have SP : Hid (∀ k W, 0 < k → k < ws.length → Bd w.heap.size (joinW (ws.take k)) W → Calls Tryz.prog 132 #[ptr w.heap.size, .int .u8 32] W fun e w' => e = .returned .nilIface ∧ Bd w.heap.size (preW (ws.take k)) w' ∧ Below w.heap.size W w') := hid (fun k W h0 hk hb => by
    have h1 := joinW_len ws k (by omega)
    have h2 := lenJ_le ws k
    have := WriteByte_any (b := 32) hb (by omega)
    rw [c32] at this
    have e2 : preW (ws.take k) = joinW (ws.take k) ++ [32] := by
      unfold preW
      rw [if_neg (fun e => by have := congrArg List.length e; rw [List.length_take, List.length_nil] at this; omega)]
    rw [e2]
    exact this)
  have WR : Hid (∀ k W, k < ws.length → Bd w.heap.size (preW (ws.take k)) W → Calls Tryz.prog 133 #[ptr w.heap.size, .string ⟨(ws.getD k []).toArray⟩] W fun e w' => e = .returned (.tuple #[]) ∧ Bd w.heap.size (joinW (ws.take (k + 1))) w' ∧ Below w.heap.size W w') := hid (fun k W hk hb => by
    have h1 := joinW_len ws k (by omega)
    have h2 := lenJ_le ws (k + 1)
    rw [lenJ_take hk] at h2
    have h3 := preW_len (ws.take k)
    have := write_any (x := ws.getD k []) hb (by omega)
    rw [take_snoc hk, joinW_snoc]
    exact this)
  have P0 : Hid (preW (ws.take 0) = joinW (ws.take 0)) := hid (by simp [preW, joinW])
  have FN : Hid (∀ W, Bd w.heap.size (joinW (ws.take ws.length)) W → Calls Tryz.prog 134 #[ptr w.heap.size] W fun e w' => e = .returned (.string ⟨(joinW ws).toArray⟩) ∧ Below w.heap.size W w') := hid (fun W hb => by
    rw [List.take_length] at hb
    exact String_any hb)
  clear hs c32 hl
  generalize hJ : ByteArray.mk (joinW ws).toArray = J at *
  clear hJ
  generalize hnw : ws.length = n at *
  have HN := hid hnw
  clear hnw
  go_enter Tryz.func101, Tryz.ntmps101
  go_wp2
  go_loopw [8] (fun iv wr => ∃ k : Nat, k ≤ n ∧ iv = .int .i64 (k : Int) ∧ Hid (Bd w.heap.size (joinW (ws.take k)) wr) ∧ Hid (Below w.heap.size w wr)) (fun iv _ => n - (intOf iv).toNat)
  case atStart => exact ⟨0, by omega, rfl, b0, bel0⟩
  case round =>
    obtain ⟨k, hk, rfl, hA, hB⟩ := hrel
    by_cases hlt : k < n
    · obtain ⟨g, o, rfl, _, h1⟩ := (HS.out.later hB.out).at (j := k) (by rw [HN.out]; exact hlt)
      have hlt' : (k : Int) < (n : Int) := by omega
      by_cases h0 : k = 0
      · have Q := hid (WR.out k wr hlt (by have := hA.out; rw [h0] at this ⊢; rw [P0.out]; exact this))
        have hz : ¬ (0 : Int) < (k : Int) := by omega
        generalize ByteArray.mk (ws.getD k []).toArray = X at *
        clear h0
        go_wp2_with (go_at_call 133; refine Q.out.mono ?_; rintro e w2 ⟨rfl, A2, B2⟩; have AA2 := hid A2; have BB2 := hid (hB.out.trans B2); clear A2 B2)
        go_roundw
        case rel => exact ⟨k + 1, by omega, by go_num, AA2, BB2⟩
        case measure => simp [intOf]; omega
      · have Q := hid (SP.out k wr (by omega) hlt hA.out)
        have hz : (0 : Int) < (k : Int) := by omega
        have WK := hid (fun W hW => WR.out k W hlt hW)
        clear h0
        generalize ByteArray.mk (ws.getD k []).toArray = X at *
        go_wp2_with (go_at_call 132; refine Q.out.mono ?_; rintro e w2 ⟨rfl, A2, B2⟩; have Q2 := hid (WK.out w2 A2); have BB2 := hid (hB.out.trans B2); clear A2 B2; refine Hid.out ?_)
        refine hid ?_
        go_wp2_with (go_at_call 133; refine Q2.out.mono ?_; rintro e w3 ⟨rfl, A3, B3⟩; have AA3 := hid A3; have BB3 := hid (BB2.out.trans B3); clear A3 B3)
        go_roundw
        case rel => exact ⟨k + 1, by omega, by go_num, AA3, BB3⟩
        case measure => simp [intOf]; omega
    · have hlt' : ¬ (k : Int) < (n : Int) := by omega
      have ek : k = n := by omega
      have Q := hid (FN.out wr (by rw [← ek]; exact hA.out))
      clear ek
      go_wp2_with (go_at_call 134; refine Q.out.mono ?_; rintro e w2 ⟨rfl, B2⟩; have BB2 := hid (hB.out.trans B2); clear B2)
      go_ret
      exact ⟨rfl, BB2.out⟩
end Go.Proofs.YtdhkdniddjnigaaGreatDoor

namespace Go.Proofs.YtdhkdniddjnigaaGreatDoor
open Go.RowKit
set_option linter.unusedVariables false

theorem cells_new {W : World} (m : List UInt8) : ∀ j u, (cellsB m)[j]? = some u → (W.alloc (.cells (cellsB m).toArray 5)).cell? ((⟨W.heap.size, 0, none⟩ : Addr).add j) = some u := by
  intro j u hu
  rw [Addr.add_lit, cell_at (heap_alloc_new W _)]
  simpa using hu
/-- Bytes laid behind one's own. -/
theorem app_bytes {W : World} {v : Value} {l : List UInt8} {cs : List Comp} (A : All (ownC 5 v (cellsB l) :: cs) W) (m : List UInt8) (h0 : 0 < m.length) (hl : l.length + m.length ≤ 140737488355328) :
    ∃ ao c w', (Builtin.append_ #[40, 40] 40 #[v, .slice (some ⟨W.heap.size, 0, none⟩) m.length m.length]).run Tryz.prog (W.alloc (.cells (cellsB m).toArray 5)) = .ok (.slice ao (l.length + m.length) c) w' ∧ All (ownC 5 (.slice ao (l.length + m.length) c) (cellsB (l ++ m)) :: cs) w' := by
  obtain ⟨i1, hi1, hz0, hz1, hz2⟩ := info_parts Tryz.info5
  have A1 := A.alloc (.cells (cellsB m).toArray 5)
  have hown : (W.alloc (.cells (cellsB m).toArray 5)).ownsRow 0 5 1 v (cellsB l).length (cellsB l) := A1.1.2.1
  obtain ⟨v', w', hr, h2, h3, h4, h5⟩ := run_append_own_at (P := Tryz.prog) (W.alloc (.cells (cellsB m).toArray 5)) 0 40 40 5 i1 (.int .u8 0) 1 1 Tryz.underlying40 hi1 hz0 hz1 hz2 rfl (by decide) v _ _ hown ⟨W.heap.size, 0, none⟩ m.length m.length (cellsB m) (by rw [cellsB_length]; omega) (cells_new m) (cellsB_one m) (by rw [cellsB_length]; unfold maxLen; omega) (by rw [cellsB_length]; omega) (by omega)
  obtain ⟨ao', c', rfl⟩ := owns_form h2
  rw [cellsB_length] at hr h2 h5
  refine ⟨ao', c', w', hr, A1.ownGrow (vs' := cellsB (l ++ m)) (base := 0) ?_ h3 h5⟩
  rw [cellsB_append, List.length_append, cellsB_length, cellsB_length]
  exact h2
theorem own_newB {W : World} {cs : List Comp} (A : All cs W) (m : List UInt8) (hm : m.length ≤ 1000) : All (ownC 5 (.slice (some ⟨W.heap.size, 0, none⟩) m.length m.length) (cellsB m) :: cs) (W.alloc (.cells (cellsB m).toArray 5)) := by
  refine A.addOwn (ba W _) ⟨by simp, Or.inr ⟨W.heap.size, m.length, (cellsB m).toArray, by rw [cellsB_length], Nat.le_refl _, heap_alloc_new W _, by rw [cellsB_length]; omega, by unfold maxLen; omega, by simp [cellsB_length], by simp⟩⟩

set_option maxHeartbeats 3200000 in
set_option maxRecDepth 1000000 in
theorem written_any {x : List UInt8} {w : World} (hl : x.length ≤ 10000000000000) :
    Calls Tryz.prog 113 #[.string ⟨x.toArray⟩] w fun e w' => e = .returned (.string ⟨(wrtW x).toArray⟩) ∧ Below w.heap.size w w' := by
  have I := hid (risBare_any (l := x) (w := w) (by omega))
  have hz : (⟨x.toArray⟩ : ByteArray).size = x.length := by simp [ByteArray.size]
  cases hx : isBareW x with
  | true =>
    have e1 : wrtW x = x := by unfold wrtW; rw [hx, if_pos rfl]
    rw [e1]
    clear e1
    generalize ByteArray.mk x.toArray = X at *
    go_enter Tryz.func113, Tryz.ntmps113
    go_wp2_with (go_at_call 150; refine I.out.mono ?_; rintro e w1 ⟨rfl, rfl⟩; rw [hx])
    go_ret
    exact ⟨rfl, Below.refl _ _⟩
  | false =>
    have e1 : wrtW x = 34 :: (escW x ++ [34]) := by unfold wrtW; rw [hx, if_neg (by simp)]
    rw [e1]
    have IX : Hid (∀ k, k < x.length → ∀ W, (Instr.index 9 (.string ⟨x.toArray⟩) (.int .i64 (k : Int))).run Tryz.prog W = .ok (.int .u8 ((x.getD k 0).toNat : Int)) W) := fun k hk W => idx_at hk W
    have N := hid (own_newB (All.came w) [34] (by simp))
    have ET : Hid (∀ k, k < x.length → escW (x.take (k + 1)) = escW (x.take k) ++ escB (x.getD k 0)) := hid (fun k hk => escW_take hk)
    have EB : Hid (∀ k, k ≤ x.length → (escW (x.take k)).length ≤ 4 * k) := hid (fun k hk => by
      have h1 := escW_len (x.take k)
      have h2 : (x.take k).length = k := by simp; omega
      omega)
    have E0 : Hid (escW (x.take 0) = []) := hid (by simp [escW])
    have EF : Hid (escW (x.take x.length) = escW x) := hid (by rw [List.take_length])
    clear e1
    generalize ByteArray.mk x.toArray = X at *
    generalize hn : x.length = n at *
    clear hn
    go_enter Tryz.func113, Tryz.ntmps113
    go_wp2_with (go_at_call 150; refine I.out.mono ?_; rintro e w1 ⟨rfl, hw1⟩; subst w1; rw [hx])
    go_loopw [4, 5] (fun ov iv wr => ∃ (k : Nat) (o : List UInt8) (ao : Option Addr) (c : Nat), k ≤ n ∧ iv = .int .i64 (k : Int) ∧ ov = .slice ao o.length c ∧ o.length ≤ 4 * k + 1 ∧ Hid (o = 34 :: escW (x.take k)) ∧ Hid (All (ownC 5 (.slice ao o.length c) (cellsB o) :: [inC w]) wr)) (fun _ iv _ => n - (intOf iv).toNat)
    case atStart => exact ⟨0, [34], some ⟨w.heap.size, 0, none⟩, 1, by omega, rfl, rfl, by simp, hid (by rw [E0.out]), N⟩
    case round =>
      obtain ⟨k, o, ao, c, hk, rfl, rfl, ho, hO, hA⟩ := hrel
      clear N
      by_cases hlt : k < n
      · have hlt' : (k : Int) < (n : Int) := by omega
        have ix := IX.out k hlt
        have et := hid (ET.out k hlt)
        generalize hb : x.getD k 0 = b at *
        clear hb
        have hb8 := b.toNat_lt
        by_cases hq : b.toNat = 34 ∨ b.toNat = 92
        · have eb : Hid (escB b = [92, b]) := hid (by unfold escB; rw [if_pos (by simp only [prnN, decide_eq_true_eq]; omega), if_pos hq])
          obtain ⟨ao1, c1, w1, hr, A1⟩ := app_bytes hA.out [92, b] (by simp) (by simp; omega)
          have nO : Hid (o ++ [92, b] = 34 :: escW (x.take (k + 1))) := hid (by rw [et.out, eb.out, hO.out]; rfl)
          have R : Hid ((Builtin.append_ #[40, 40] 40 #[.slice ao o.length c, .slice (some ⟨wr.heap.size, 0, none⟩) 2 2]).run Tryz.prog (wr.alloc (.cells #[.int .u8 92, .int .u8 (b.toNat : Int)] 5)) = .ok (.slice ao1 (o.length + 2) c1) w1) := hid hr
          have A2 := hid A1
          have EL := hid (show (o ++ [92, b]).length = o.length + 2 by simp)
          clear hr A1 hA
          generalize hno : o.length = no at *
          clear hno
          by_cases h34 : b.toNat = 34
          · have bi : (b.toNat : Int) = 34 := by omega
            rw [bi] at ix R
            clear bi h34 hq
            go_wp2_with (at_builtin; refine wpList_append_run rfl _ _ 40 rfl _ _ _ _ rfl rfl R.out ?_)
            go_roundw
            case rel => exact ⟨k + 1, o ++ [92, b], ao1, c1, by omega, by go_num, by rw [EL.out], by rw [EL.out]; omega, nO, hid (by rw [EL.out]; exact A2.out)⟩
            case measure => simp [intOf]; omega
          · have bi : (b.toNat : Int) = 92 := by omega
            rw [bi] at ix R
            clear bi h34 hq
            go_wp2_with (at_builtin; refine wpList_append_run rfl _ _ 40 rfl _ _ _ _ rfl rfl R.out ?_)
            go_roundw
            case rel => exact ⟨k + 1, o ++ [92, b], ao1, c1, by omega, by go_num, by rw [EL.out], by rw [EL.out]; omega, nO, hid (by rw [EL.out]; exact A2.out)⟩
            case measure => simp [intOf]; omega
        · have n34 : ((b.toNat : Int) == 34) = false := by simp; omega
          have n92 : ((b.toNat : Int) == 92) = false := by simp; omega
          by_cases hp : 32 ≤ b.toNat ∧ b.toNat ≤ 126
          · have eb : Hid (escB b = [b]) := hid (by unfold escB; rw [if_pos (by simp only [prnN, decide_eq_true_eq]; exact hp), if_neg hq])
            obtain ⟨ao1, c1, w1, hr, A1⟩ := app_byte hA.out b (by omega)
            have nO : Hid (o ++ [b] = 34 :: escW (x.take (k + 1))) := hid (by rw [et.out, eb.out, hO.out]; rfl)
            have R := hid hr
            have A2 := hid A1
            have EL := hid (show (o ++ [b]).length = o.length + 1 by simp)
            have p1 : (32 : Int) ≤ b.toNat := by omega
            have p2 : (b.toNat : Int) ≤ 126 := by omega
            clear hr A1 hA hq hp
            generalize hno : o.length = no at *
            clear hno
            generalize (b.toNat : Int) = bi at *
            go_wp2_with (at_builtin; refine wpList_append_run rfl _ _ 40 rfl _ _ _ _ rfl rfl R.out ?_)
            go_roundw
            case rel => exact ⟨k + 1, o ++ [b], ao1, c1, by omega, by go_num, by rw [EL.out], by rw [EL.out]; omega, nO, hid (by rw [EL.out]; exact A2.out)⟩
            case measure => simp [intOf]; omega
          · have eb : Hid (escB b = [92, 120, hexD (b.toNat / 16), hexD (b.toNat % 16)]) := hid (by unfold escB; rw [if_neg (by simp only [prnN, decide_eq_true_eq]; exact hp)])
            have hA0 := hid hA.out.drew
            obtain ⟨ao1, c1, w1, hr, A1⟩ := app_bytes hA0.out [92, 120, hexD (b.toNat / 16), hexD (b.toNat % 16)] (by simp) (by simp; omega)
            have nO : Hid (o ++ [92, 120, hexD (b.toNat / 16), hexD (b.toNat % 16)] = 34 :: escW (x.take (k + 1))) := hid (by rw [et.out, eb.out, hO.out]; rfl)
            have EL := hid (show (o ++ [92, 120, hexD (b.toNat / 16), hexD (b.toNat % 16)]).length = o.length + 4 by simp)
            have i1 := idx_hex (n := b.toNat / 16) (by omega)
            have i2 := idx_hex (n := b.toNat % 16) (by omega)
            have q1 : (b.toNat : Int) / 16 = ((b.toNat / 16 : Nat) : Int) := by omega
            have q2 : (b.toNat : Int).tdiv 16 = ((b.toNat / 16 : Nat) : Int) := by rw [Int.tdiv_eq_ediv_of_nonneg (by omega)]; omega
            have q3 : (b.toNat : Int).tmod 16 = ((b.toNat % 16 : Nat) : Int) := by rw [Int.tmod_eq_emod_of_nonneg (by omega)]; omega
            have q4 : (b.toNat : Int) % 16 = ((b.toNat % 16 : Nat) : Int) := by omega
            have wf : ∀ a : Fin 16, IntKind.u8.wrap (a.val : Int) = a.val := by decide +kernel
            have w1' := wf ⟨b.toNat / 16, by omega⟩
            have w2' := wf ⟨b.toNat % 16, by omega⟩
            simp only at w1' w2'
            clear wf
            have A2 := hid A1
            generalize b.toNat / 16 = n1 at *
            generalize b.toNat % 16 = n2 at *
            generalize hexD n1 = d1 at *
            generalize hexD n2 = d2 at *
            have R : Hid ((Builtin.append_ #[40, 40] 40 #[.slice ao o.length c, .slice (some ⟨wr.heap.size, 0, none⟩) 4 4]).run Tryz.prog (wr.drew.alloc (.cells #[.int .u8 92, .int .u8 120, .int .u8 (d1.toNat : Int), .int .u8 (d2.toNat : Int)] 5)) = .ok (.slice ao1 (o.length + 4) c1) w1) := hid hr
            clear hr A1 hA hA0 eb et hq
            generalize hno : o.length = no at *
            clear hno
            generalize (d1.toNat : Int) = d1i at *
            generalize (d2.toNat : Int) = d2i at *
            by_cases p1 : (32 : Int) ≤ b.toNat
            · have p2 : ¬ (b.toNat : Int) ≤ 126 := by omega
              clear hp
              generalize (b.toNat : Int) = bi at *
              go_wp2
              go_region_held3 (fun _ => True) (trivial) (first | (refine step_append_run (by rfl) (.tmp 40) (.tmp 49) 40 (by rfl) _ _ _ _ (by rfl) (by rfl) R.out ?_))
              all_goals go_wp2
              all_goals (try go_roundw)
              all_goals first | exact ⟨k + 1, o ++ [92, 120, d1, d2], ao1, c1, by omega, by go_num, by rw [EL.out], by rw [EL.out]; omega, nO, hid (by rw [EL.out]; exact A2.out)⟩ | (simp [intOf]; omega) | exact ⟨⟨k + 1, o ++ [92, 120, d1, d2], ao1, c1, by omega, by go_num, by rw [EL.out], by rw [EL.out]; omega, nO, hid (by rw [EL.out]; exact A2.out)⟩, by simp [intOf]; omega⟩
            · clear hp
              generalize (b.toNat : Int) = bi at *
              go_wp2
              go_region_held3 (fun _ => True) (trivial) (first | (refine step_append_run (by rfl) (.tmp 40) (.tmp 49) 40 (by rfl) _ _ _ _ (by rfl) (by rfl) R.out ?_))
              all_goals go_wp2
              all_goals (try go_roundw)
              all_goals first | exact ⟨k + 1, o ++ [92, 120, d1, d2], ao1, c1, by omega, by go_num, by rw [EL.out], by rw [EL.out]; omega, nO, hid (by rw [EL.out]; exact A2.out)⟩ | (simp [intOf]; omega) | exact ⟨⟨k + 1, o ++ [92, 120, d1, d2], ao1, c1, by omega, by go_num, by rw [EL.out], by rw [EL.out]; omega, nO, hid (by rw [EL.out]; exact A2.out)⟩, by simp [intOf]; omega⟩
      · have hlt' : ¬ (k : Int) < (n : Int) := by omega
        have ek : k = n := by omega
        obtain ⟨ao1, c1, w1, hr, A1⟩ := app_byte hA.out 34 (by omega)
        have c34 : ((34 : UInt8).toNat : Int) = 34 := by decide
        rw [c34] at hr
        have R := hid hr
        have EL := hid (show (o ++ [34]).length = o.length + 1 by simp)
        have cv : (convert 40 9 (.slice ao1 (o.length + 1) c1)).run Tryz.prog w1 = .ok (.string ⟨(o ++ [34]).toArray⟩) w1 := conv_string (reads_own A1)
        have fin : Hid (o ++ [34] = 34 :: (escW x ++ [34])) := hid (by rw [hO.out, ek, EF.out]; rfl)
        have BL := hid (A1.into (w0 := w) (by simp))
        rw [fin.out] at cv
        clear hr A1 hA ek c34 fin hO
        generalize hY : ByteArray.mk (34 :: (escW x ++ [34])).toArray = Y at *
        have HY := hid hY
        clear hY
        generalize hno : o.length = no at *
        clear hno
        go_wp2_with (at_builtin; refine wpList_append_run rfl _ _ 40 rfl _ _ _ _ rfl rfl R.out ?_)
        go_ret
        exact ⟨by rw [HY.out]; rfl, BL.out⟩
end Go.Proofs.YtdhkdniddjnigaaGreatDoor

namespace Go.Proofs.YtdhkdniddjnigaaGreatDoor
open Go.RowKit
set_option linter.unusedVariables false

theorem ba_app (a b : List UInt8) : (⟨a.toArray⟩ : ByteArray) ++ ⟨b.toArray⟩ = ⟨(a ++ b).toArray⟩ := by
  apply ByteArray.ext
  simp
theorem ba_size (a : List UInt8) : (⟨a.toArray⟩ : ByteArray).size = a.length := by simp [ByteArray.size]

set_option maxHeartbeats 1600000 in
set_option maxRecDepth 1000000 in
theorem rJoin_any {s : Value} {ws : Ws} {w : World} (hs : Rt w s ws) (hn : ws.length ≤ 140737488355328) (hl : lenJ ws ≤ 10000000000000) :
    Calls Tryz.prog 73 #[s] w fun e w' => e = .returned (.string ⟨(joinW ws).toArray⟩) ∧ Below w.heap.size w w' := by
  obtain ⟨ao, c, rfl⟩ := hs.form
  have HS := hid hs
  have WR : Hid (∀ k W, k < ws.length → Calls Tryz.prog 113 #[.string ⟨(ws.getD k []).toArray⟩] W fun e w' => e = .returned (.string ⟨(wrtW (ws.getD k [])).toArray⟩) ∧ Below W.heap.size W w') := hid (fun k W hk => written_any (by
    have h2 := lenJ_le ws (k + 1)
    rw [lenJ_take hk] at h2
    omega))
  have FK : Hid (∀ k, k < ws.length → (⟨(preW (ws.take k)).toArray⟩ : ByteArray) ++ ⟨(wrtW (ws.getD k [])).toArray⟩ = ⟨(joinW (ws.take (k + 1))).toArray⟩ ∧ ¬ 9223372036854775807 < (⟨(preW (ws.take k)).toArray⟩ : ByteArray).size + (⟨(wrtW (ws.getD k [])).toArray⟩ : ByteArray).size) := hid (fun k hk => by
    refine ⟨by rw [ba_app, take_snoc hk, joinW_snoc], ?_⟩
    rw [ba_size, ba_size]
    have h1 := joinW_len ws k (by omega)
    have h2 := lenJ_le ws (k + 1)
    rw [lenJ_take hk] at h2
    have h3 := preW_len (ws.take k)
    have h4 := wrtW_len (ws.getD k [])
    omega)
  have FS : Hid (∀ k, 0 < k → k < ws.length → (⟨(joinW (ws.take k)).toArray⟩ : ByteArray) ++ ⟨#[32]⟩ = ⟨(preW (ws.take k)).toArray⟩ ∧ ¬ 9223372036854775807 < (⟨(joinW (ws.take k)).toArray⟩ : ByteArray).size + (⟨#[32]⟩ : ByteArray).size) := hid (fun k h0 hk => by
    have e2 : preW (ws.take k) = joinW (ws.take k) ++ [32] := by
      unfold preW
      rw [if_neg (fun e => by have := congrArg List.length e; rw [List.length_take, List.length_nil] at this; omega)]
    refine ⟨by rw [e2, ← ba_app], ?_⟩
    rw [ba_size]
    have h1 := joinW_len ws k (by omega)
    have h2 := lenJ_le ws k
    have h3 : (⟨#[32]⟩ : ByteArray).size = 1 := rfl
    omega)
  have P0 : Hid (preW (ws.take 0) = joinW (ws.take 0)) := hid (by simp [preW, joinW])
  have J0 : Hid ((⟨(joinW (ws.take 0)).toArray⟩ : ByteArray) = ⟨#[]⟩) := hid (by simp [joinW])
  have FN : Hid ((⟨(joinW (ws.take ws.length)).toArray⟩ : ByteArray) = ⟨(joinW ws).toArray⟩) := hid (by rw [List.take_length])
  clear hs hl
  generalize hJ : ByteArray.mk (joinW ws).toArray = J at *
  clear hJ
  generalize hnw : ws.length = n at *
  have HN := hid hnw
  clear hnw
  go_enter Tryz.func73, Tryz.ntmps73
  go_wp2
  go_loopw [3, 8] (fun sv iv wr => ∃ (k : Nat) (S : ByteArray), k ≤ n ∧ iv = .int .i64 (k : Int) ∧ sv = .string S ∧ Hid (S = ⟨(joinW (ws.take k)).toArray⟩) ∧ Hid (Below w.heap.size w wr)) (fun _ iv _ => n - (intOf iv).toNat)
  case atStart => exact ⟨0, ⟨#[]⟩, by omega, rfl, rfl, hid J0.out.symm, hid (Below.refl _ _)⟩
  case round =>
    obtain ⟨k, S, hk, rfl, rfl, hS, hB⟩ := hrel
    by_cases hlt : k < n
    · obtain ⟨g, o, rfl, _, h1⟩ := (HS.out.later hB.out).at (j := k) (by rw [HN.out]; exact hlt)
      have hlt' : (k : Int) < (n : Int) := by omega
      have Q := hid (WR.out k wr hlt)
      obtain ⟨f1, f2⟩ := FK.out k hlt
      by_cases h0 : k = 0
      · have eS : Hid ((⟨(preW (ws.take k)).toArray⟩ : ByteArray) = S) := hid (by rw [hS.out, h0, P0.out])
        rw [eS.out] at f1 f2
        have hz : ¬ (0 : Int) < (k : Int) := by omega
        generalize ByteArray.mk (ws.getD k []).toArray = X at *
        generalize ByteArray.mk (wrtW (ws.getD k [])).toArray = Y at *
        generalize hN : ByteArray.mk (joinW (ws.take (k + 1))).toArray = N at *
        have HNN := hid hN
        clear h0 hN
        go_wp2_with (go_at_call 113; refine Q.out.mono ?_; rintro e w2 ⟨rfl, B2⟩; have BB2 := hid (hB.out.trans (B2.mono hB.out.size)); clear B2)
        go_roundw
        case rel => exact ⟨k + 1, N, by omega, by go_num, rfl, hid HNN.out.symm, BB2⟩
        case measure => simp [intOf]; omega
      · obtain ⟨g1, g2⟩ := FS.out k (by omega) hlt
        rw [← hS.out] at g1 g2
        have hz : (0 : Int) < (k : Int) := by omega
        generalize ByteArray.mk (ws.getD k []).toArray = X at *
        generalize ByteArray.mk (wrtW (ws.getD k [])).toArray = Y at *
        generalize ByteArray.mk (preW (ws.take k)).toArray = Z at *
        generalize hN : ByteArray.mk (joinW (ws.take (k + 1))).toArray = N at *
        have HNN := hid hN
        clear h0 hN
        go_wp2_with (go_at_call 113; refine Q.out.mono ?_; rintro e w2 ⟨rfl, B2⟩; have BB2 := hid (hB.out.trans (B2.mono hB.out.size)); clear B2)
        go_roundw
        case rel => exact ⟨k + 1, N, by omega, by go_num, rfl, hid HNN.out.symm, BB2⟩
        case measure => simp [intOf]; omega
    · have hlt' : ¬ (k : Int) < (n : Int) := by omega
      have ek : k = n := by omega
      have fin : Hid (S = J) := hid (by rw [hS.out, ek, FN.out])
      clear ek
      go_wp2
      go_ret
      exact ⟨by rw [← fin.out]; rfl, hB.out⟩
end Go.Proofs.YtdhkdniddjnigaaGreatDoor

namespace Go.Proofs.YtdhkdniddjnigaaGreatDoor
open Go.RowKit
set_option linter.unusedVariables false

/-- Where a word stands in a list from a place on. -/
def findW (x : List UInt8) : Nat → Ws → Option Nat
  | _, [] => none
  | k, y :: r => if y = x then some k else findW x (k + 1) r
theorem findW_at {x : List UInt8} {k : Nat} {l : Ws} (hk : k < l.length) : findW x k (l.drop k) = if l.getD k [] = x then some k else findW x (k + 1) (l.drop (k + 1)) := by
  rw [List.drop_eq_getElem_cons hk, findW]
  simp [List.getD, hk]
/-- A place, or -1. -/
def idxI (o : Option Nat) : Int := match o with | none => -1 | some k => (k : Int)
/-- Texts laid behind one's own. -/
theorem appR {W : World} {v v2 : Value} {l l2 : Ws} {cs : List Comp} (A : All (ownC 9 v (txW l) :: cs) W) (h2 : Rt W v2 l2) (hl : (l.length + l2.length) * 16 ≤ 140737488355328) :
    ∃ ao c w', (Builtin.append_ #[43, 43] 43 #[v, v2]).run Tryz.prog W = .ok (.slice ao (l.length + l2.length) c) w' ∧ All (ownC 9 (.slice ao (l.length + l2.length) c) (txW (l ++ l2)) :: cs) w' := by
  obtain ⟨i1, hi1, hz0, hz1, hz2⟩ := info_parts Tryz.info9
  obtain ⟨ao2, c2, rfl, hc2, hx⟩ := h2
  have hown : W.ownsRow 0 9 1 v (txW l).length (txW l) := A.1.2.1
  obtain ⟨ao, c, rfl⟩ := owns_form hown
  have e1 : txW (l ++ l2) = txW l ++ txW l2 := by simp [txW]
  rcases hx with rfl | ⟨g, o, rfl, hg, hcell⟩
  · refine ⟨ao, c, W, ?_, ?_⟩
    · have := run_append_nothing W 43 43 43 9 i1 Tryz.underlying43 hi1 ao (txW l).length c (owns_len hown).2 (.slice ao2 0 c2) (srcNil Tryz.underlying43 ao2 c2)
      simpa [txW_length] using this
    · rw [txW_length] at A
      simpa using A
  · have k1 : (txW l).length + l2.length ≤ maxLen := by rw [txW_length]; unfold maxLen; omega
    have k2 : ((txW l).length + l2.length) * 16 ≤ 140737488355328 := by rw [txW_length]; omega
    have k3 : (txW l2).length = l2.length * 1 := by rw [txW_length]; omega
    have k4 : ∀ u ∈ txW l2, u.oneCell' = true := fun u hu => by
      obtain ⟨y, _, rfl⟩ := List.mem_map.1 hu
      rfl
    obtain ⟨v', w', hr, h2, h3, h4, h5⟩ := run_append_own_at (P := Tryz.prog) W 0 43 43 9 i1 (.string ⟨#[]⟩) 1 16 Tryz.underlying43 hi1 hz0 hz1 hz2 rfl (by decide) (.slice ao (txW l).length c) (txW l).length (txW l) hown ⟨g, o, none⟩ l2.length c2 (txW l2) k3
      (fun j u hu => by
        have hj : j < l2.length := by rw [← txW_length]; exact (List.getElem?_eq_some_iff.1 hu).1
        rw [Addr.add_lit, hcell j hj, ← hu]
        simp [txW, hj]) k4 k1 k2 (Nat.zero_le _)
    obtain ⟨ao', c', rfl⟩ := owns_form h2
    have el : (txW l).length + l2.length = l.length + l2.length := by rw [txW_length]
    rw [el] at hr h2 h5
    refine ⟨ao', c', w', hr, A.ownGrow (vs' := txW (l ++ l2)) (base := 0) ?_ h3 h5⟩
    rw [e1, List.length_append, txW_length, txW_length]
    exact h2
theorem own_new {W : World} {cs : List Comp} (A : All cs W) (m : Ws) (hm : m.length ≤ 1000) : All (ownC 9 (.slice (some ⟨W.heap.size, 0, none⟩) m.length m.length) (txW m) :: cs) (W.alloc (.cells (txW m).toArray 9)) := by
  refine A.addOwn (ba W _) ⟨by simp, Or.inr ⟨W.heap.size, m.length, (txW m).toArray, by rw [txW_length], Nat.le_refl _, heap_alloc_new W _, by rw [txW_length]; omega, by unfold maxLen; omega, by simp [txW_length], by simp⟩⟩

set_option maxRecDepth 1000000 in
/-- A list of its own of a word and those behind it. -/
theorem row_any {x : List UInt8} {v : Value} {l : Ws} {cs : List Comp} {w : World} (A : All cs w) (h : Rt w v l) (hl : (1 + l.length) * 16 ≤ 140737488355328) :
    Calls Tryz.prog 99 #[.string ⟨x.toArray⟩, v] w fun e w' => ∃ ao c, e = .returned (.slice ao (1 + l.length) c) ∧ All (ownC 9 (.slice ao (1 + l.length) c) (txW (x :: l)) :: cs) w' := by
  obtain ⟨ao, c, w', hr, A2⟩ := appR (own_new A [x] (by simp)) (h.later (ba w _)) (by simpa using hl)
  obtain ⟨ao0, c0, rfl⟩ := h.form
  have R : Hid ((Builtin.append_ #[43, 43] 43 #[.slice (some ⟨w.heap.size, 0, none⟩) 1 1, .slice ao0 l.length c0]).run Tryz.prog (w.alloc (.cells #[.string ⟨x.toArray⟩] 9)) = .ok (.slice ao (1 + l.length) c) w') := hid hr
  have B := hid A2
  clear hr A2 A h hl
  generalize hn : l.length = n at *
  clear hn
  generalize ByteArray.mk x.toArray = X at *
  go_enter Tryz.func99, Tryz.ntmps99
  go_wp2_with (at_builtin; refine wpList_append_run rfl _ _ 43 rfl _ _ _ _ rfl rfl R.out ?_)
  go_ret
  exact ⟨ao, c, rfl, B.out⟩

end Go.Proofs.YtdhkdniddjnigaaGreatDoor

namespace Go.Proofs.YtdhkdniddjnigaaGreatDoor
open Go.RowKit
set_option linter.unusedVariables false

/-- A part of a list of texts. -/
theorem cut_rt {w : World} {ao : Option Addr} {n c : Nat} {l : Ws} (h : Rt w (.slice ao n c) l) {lo hi : Nat} (h1 : lo ≤ hi) (h2 : hi ≤ l.length) : Rt w (sliced ao lo hi c 1) ((l.drop lo).take (hi - lo)) := by
  obtain ⟨ao', c', e, hc, hx⟩ := h
  simp only [Value.slice.injEq] at e
  obtain ⟨rfl, rfl, rfl⟩ := e
  have hl : ((l.drop lo).take (hi - lo)).length = hi - lo := by simp; omega
  refine ⟨_, _, by rw [hl]; rfl, by omega, ?_⟩
  by_cases h0 : lo = hi
  · left; subst h0; simp
  · right
    rcases hx with rfl | ⟨g, o, rfl, hg, hcell⟩
    · simp at h2; omega
    · have hne : c ≠ lo := by omega
      refine ⟨g, o + lo, by rw [if_neg hne]; simp [Addr.add_lit], hg, fun j hj => ?_⟩
      have hj' : lo + j < l.length := by rw [hl] at hj; omega
      have := hcell (lo + j) hj'
      rw [Nat.add_assoc, this]
      simp
theorem Tryz.elem28 (W : World) : (sizeOf (Tryz.prog.elem 43)).run Tryz.prog W = .ok 1 W := by kernel_rfl
set_option maxRecDepth 1000000 in
theorem cut_l {w : World} {ao : Option Addr} {c : Nat} {l : Ws} (h : Rt w (.slice ao l.length c) l) {a : Nat} (ha : a ≤ l.length) {x : Int} (hx : x = (a : Int)) : ∃ ao' c', (∀ W, (Instr.slice 43 (.slice ao l.length c) (some (.int .i64 x)) none none).run Tryz.prog W = .ok (.slice ao' (l.length - a) c') W) ∧ Rt w (.slice ao' (l.length - a) c') (l.drop a) := by
  have hr := cut_rt h (lo := a) (hi := l.length) ha (Nat.le_refl _)
  rw [List.take_of_length_le (by simp)] at hr
  refine ⟨_, _, fun W => ?_, hr⟩
  rw [run_slice_l W 43 ao l.length c Tryz.underlying43 .i64 x (by omega) (by omega), Tryz.elem28, hx, Int.toNat_natCast]
  rfl
set_option maxRecDepth 1000000 in
theorem cut_h {w : World} {ao : Option Addr} {n c : Nat} {l : Ws} (h : Rt w (.slice ao n c) l) {b : Nat} (hb : b ≤ l.length) {x : Int} (hx : x = (b : Int)) : ∃ ao' c', (∀ W, (Instr.slice 43 (.slice ao n c) none (some (.int .i64 x)) none).run Tryz.prog W = .ok (.slice ao' b c') W) ∧ Rt w (.slice ao' b c') (l.take b) := by
  have hc : l.length ≤ c := by obtain ⟨_, _, e, hc, _⟩ := h; simp only [Value.slice.injEq] at e; omega
  have hr := cut_rt h (lo := 0) (hi := b) (by omega) hb
  rw [List.drop_zero, Nat.sub_zero] at hr
  have e0 : sliced ao 0 b c 1 = .slice (if c = 0 then ao else ao.map (·.add (0 * 1))) b c := rfl
  rw [e0] at hr
  refine ⟨_, _, fun W => ?_, hr⟩
  rw [run_slice_h W 43 ao n c Tryz.underlying43 .i64 x (by omega) (by omega), Tryz.elem28, hx, Int.toNat_natCast]
  rfl
set_option maxRecDepth 1000000 in
theorem cut_lh {w : World} {ao : Option Addr} {n c : Nat} {l : Ws} (h : Rt w (.slice ao n c) l) {a b : Nat} (hb : a + b ≤ l.length) {x y : Int} (hx : x = (a : Int)) (hy : y = (a : Int) + b) : ∃ ao' c', (∀ W, (Instr.slice 43 (.slice ao n c) (some (.int .i64 x)) (some (.int .i64 y)) none).run Tryz.prog W = .ok (.slice ao' b c') W) ∧ Rt w (.slice ao' b c') ((l.drop a).take b) := by
  have hc : l.length ≤ c := by obtain ⟨_, _, e, hc, _⟩ := h; simp only [Value.slice.injEq] at e; omega
  have hr := cut_rt h (lo := a) (hi := a + b) (by omega) hb
  rw [Nat.add_sub_cancel_left] at hr
  have e0 : sliced ao a (a + b) c 1 = .slice (if c = a then ao else ao.map (·.add (a * 1))) b (c - a) := by unfold sliced; rw [Nat.add_sub_cancel_left]
  rw [e0] at hr
  refine ⟨_, _, fun W => ?_, hr⟩
  have ey : y.toNat = a + b := by omega
  rw [run_slice_lh W 43 ao n c Tryz.underlying43 .i64 .i64 x y (by omega) (by omega) (by omega), Tryz.elem28, ey, hx, Int.toNat_natCast]
  show Result.ok (sliced ao a (a + b) c 1) W = _
  rw [e0]

end Go.Proofs.YtdhkdniddjnigaaGreatDoor

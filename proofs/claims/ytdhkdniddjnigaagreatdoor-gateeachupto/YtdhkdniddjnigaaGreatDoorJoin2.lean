import Derived.Test.YtdhkdniddjnigaaGreatDoorJoin
namespace Go.Proofs.YtdhkdniddjnigaaGreatDoor
open Go.RowKit
set_option linter.unusedVariables false

theorem escB_len (b : UInt8) : (escB b).length ≤ 4 ∧ 1 ≤ (escB b).length := by
  unfold escB
  split
  · split <;> simp
  · simp
theorem escW_take {x : List UInt8} {k : Nat} (hk : k < x.length) : escW (x.take (k + 1)) = escW (x.take k) ++ escB (x.getD k 0) := by
  rw [take_snocB hk, escW_snoc]
theorem escW_len (x : List UInt8) : (escW x).length ≤ 4 * x.length := by
  induction x with
  | nil => simp [escW]
  | cons b r ih =>
    have e : escW (b :: r) = escB b ++ escW r := by simp [escW]
    have := (escB_len b).1
    rw [e, List.length_append, List.length_cons]
    omega

set_option maxHeartbeats 1000000 in
set_option maxRecDepth 1000000 in
theorem write_any {B : Nat} {l x : List UInt8} {w : World} (h : Bd B l w) (hl : l.length + 4 * x.length + 10 ≤ 140737488355328) :
    Calls Tryz.prog 133 #[ptr B, .string ⟨x.toArray⟩] w fun e w' => e = .returned (.tuple #[]) ∧ Bd B (l ++ wrtW x) w' ∧ Below B w w' := by
  have I := hid (isBareWord_any (l := x) (w := w) (by omega))
  have hz : (⟨x.toArray⟩ : ByteArray).size = x.length := by simp [ByteArray.size]
  cases hx : isBareW x with
  | true =>
    have e1 : wrtW x = x := by unfold wrtW; rw [hx, if_pos rfl]
    rw [e1]
    have C := hid (WriteString_any (x := x) h (by omega))
    clear e1 h
    generalize ByteArray.mk x.toArray = X at *
    go_enter Tryz.func133, Tryz.ntmps133
    go_wp2_with (first | (go_at_call 178; refine I.out.mono ?_; rintro e w1 ⟨rfl, rfl⟩; rw [hx]) | (go_at_call 179; refine C.out.mono ?_; rintro e w1 ⟨rfl, A1, B1⟩; have AA := hid A1; have BB := hid B1; clear A1 B1))
    refine bodyPost_ret (results_none rfl _ _ _) rfl ?_
    exact ⟨rfl, AA.out, BB.out⟩
  | false =>
    have e1 : wrtW x = 34 :: (escW x ++ [34]) := by unfold wrtW; rw [hx, if_neg (by simp)]
    rw [e1]
    have c34 : ((34 : UInt8).toNat : Int) = 34 := by decide
    have C := hid (WriteByte_any (b := 34) h (by omega))
    rw [c34] at C
    have IX : Hid (∀ k, k < x.length → ∀ W, (Instr.index 9 (.string ⟨x.toArray⟩) (.int .i64 (k : Int))).run Tryz.prog W = .ok (.int .u8 ((x.getD k 0).toNat : Int)) W) := fun k hk W => idx_at hk W
    have WQ : Hid (∀ k W, k < x.length → Bd B (l ++ [34] ++ escW (x.take k)) W → Calls Tryz.prog 180 #[ptr B, .int .u8 ((x.getD k 0).toNat : Int)] W fun e w' => e = .returned (.tuple #[]) ∧ Bd B (l ++ [34] ++ escW (x.take (k + 1))) w' ∧ Below B W w') := hid (fun k W hk hb => by
      have h1 := escW_len (x.take k)
      have h2 : (x.take k).length = k := by simp; omega
      have := writeQuoted_any (b := x.getD k 0) hb (by simp only [List.length_append, List.length_cons, List.length_nil]; omega)
      rw [escW_take hk, ← List.append_assoc]
      exact this)
    have WE : Hid (∀ W, Bd B (l ++ [34] ++ escW (x.take x.length)) W → Calls Tryz.prog 132 #[ptr B, .int .u8 34] W fun e w' => e = .returned .nilIface ∧ Bd B (l ++ (34 :: (escW x ++ [34]))) w' ∧ Below B W w') := hid (fun W hb => by
      have h1 := escW_len x
      rw [List.take_length] at hb
      have := WriteByte_any (b := 34) hb (by simp only [List.length_append, List.length_cons, List.length_nil]; omega)
      rw [c34] at this
      have e2 : l ++ (34 :: (escW x ++ [34])) = l ++ [34] ++ escW x ++ [34] := by simp
      rw [e2]
      exact this)
    have E0 : Hid (escW (x.take 0) = []) := hid (by simp [escW])
    clear e1 h c34
    generalize ByteArray.mk x.toArray = X at *
    generalize hn : x.length = n at *
    clear hn
    go_enter Tryz.func133, Tryz.ntmps133
    go_wp2_with (first | (go_at_call 178; refine I.out.mono ?_; rintro e w1 ⟨rfl, hw1⟩; subst w1; rw [hx]) | (go_at_call 132; refine C.out.mono ?_; rintro e w1 ⟨rfl, A1, B1⟩; have AA := hid A1; have BB := hid B1; clear A1 B1; refine Hid.out ?_))
    refine hid ?_
    go_wp2
    go_loopw [14] (fun iv wr => ∃ k : Nat, k ≤ n ∧ iv = .int .i64 (k : Int) ∧ Hid (Bd B (l ++ [34] ++ escW (x.take k)) wr) ∧ Hid (Below B w wr)) (fun iv _ => n - (intOf iv).toNat)
    case atStart => exact ⟨0, by omega, rfl, hid (by rw [E0.out, List.append_nil]; exact AA.out), BB⟩
    case round =>
      obtain ⟨k, hk, rfl, hA, hB⟩ := hrel
      by_cases hlt : k < n
      · have ix := IX.out k hlt
        have Q := hid (WQ.out k wr hlt hA.out)
        have hlt' : (k : Int) < (n : Int) := by omega
        generalize ((x.getD k 0).toNat : Int) = bi at *
        go_wp2_with (go_at_call 180; refine Q.out.mono ?_; rintro e w2 ⟨rfl, A2, B2⟩; have AA2 := hid A2; have BB2 := hid (hB.out.trans B2); clear A2 B2)
        go_roundw
        case rel => exact ⟨k + 1, by omega, by go_num, AA2, BB2⟩
        case measure => simp [intOf]; omega
      · have hlt' : ¬ (k : Int) < (n : Int) := by omega
        have ek : k = n := by omega
        have Q := hid (WE.out wr (by rw [← ek]; exact hA.out))
        clear ek
        go_wp2_with (go_at_call 132; refine Q.out.mono ?_; rintro e w2 ⟨rfl, A2, B2⟩; have AA2 := hid A2; have BB2 := hid (hB.out.trans B2); clear A2 B2)
        go_end0
        exact ⟨rfl, AA2.out, BB2.out⟩

theorem wrtW_len (x : List UInt8) : (wrtW x).length ≤ 4 * x.length + 2 := by
  unfold wrtW
  split
  · omega
  · have := escW_len x
    simp only [List.length_cons, List.length_append, List.length_nil]
    omega
/-- How long a line of words may be. -/
def lenJ (ws : Ws) : Nat := (ws.map fun x => 4 * x.length + 16).sum
theorem take_snoc {ws : Ws} {k : Nat} (hk : k < ws.length) : ws.take (k + 1) = ws.take k ++ [ws.getD k []] := by
  rw [List.take_add_one, List.getElem?_eq_getElem hk]
  simp [List.getD, hk]
theorem lenJ_take {ws : Ws} {k : Nat} (hk : k < ws.length) : lenJ (ws.take (k + 1)) = lenJ (ws.take k) + (4 * (ws.getD k []).length + 16) := by
  rw [take_snoc hk]
  unfold lenJ
  rw [List.map_append, List.sum_append]
  simp
theorem lenJ_le : ∀ (ws : Ws) (k : Nat), lenJ (ws.take k) ≤ lenJ ws
  | [], k => by simp [lenJ]
  | x :: r, 0 => by simp [lenJ]
  | x :: r, k + 1 => by
    have := lenJ_le r k
    simp only [lenJ, List.take_succ_cons, List.map_cons, List.sum_cons] at this ⊢
    omega
theorem preW_len (ws : Ws) : (preW ws).length ≤ (joinW ws).length + 1 := by
  unfold preW
  split <;> simp
theorem joinW_len : ∀ (ws : Ws) (k : Nat), k ≤ ws.length → (joinW (ws.take k)).length ≤ lenJ (ws.take k)
  | ws, 0, h => by simp [joinW]
  | ws, k + 1, h => by
    have ih := joinW_len ws k (by omega)
    rw [lenJ_take (by omega), take_snoc (by omega), joinW_snoc, List.length_append]
    have h1 := preW_len (ws.take k)
    have h2 := wrtW_len (ws.getD k [])
    omega

set_option maxHeartbeats 1600000 in
set_option maxRecDepth 1000000 in
theorem Join_any {s : Value} {ws : Ws} {w : World} (hs : Rt w s ws) (hn : ws.length ≤ 140737488355328) (hl : lenJ ws ≤ 100000000000000) :
    Calls Tryz.prog 101 #[s] w fun e w' => e = .returned (.string ⟨(joinW ws).toArray⟩) ∧ Below w.heap.size w w' := by
  obtain ⟨ao, c, rfl⟩ := hs.form
  have HS := hid hs
  have b0 : Hid (Bd w.heap.size (joinW (ws.take 0)) (w.alloc (.cells #[.pointer none, .slice none 0 0] 188))) := hid (Or.inl ⟨Nat.le_refl _, .slice none 0 0, heap_alloc_new w _, by simpa [joinW, cellsB] using World.ownsRow_nil _ _ 5 1, by simp [Value.ownBlock]⟩)
  have bel0 := hid (ba w (.cells #[.pointer none, .slice none 0 0] 188))
  have c32 : ((32 : UInt8).toNat : Int) = 32 := by decide
  have SP : Hid (∀ k W, 0 < k → k < ws.length → Bd w.heap.size (joinW (ws.take k)) W → Calls Tryz.prog 132 #[ptr w.heap.size, .int .u8 32] W fun e w' => e = .returned .nilIface ∧ Bd w.heap.size (preW (ws.take k)) w' ∧ Below w.heap.size W w') := hid (fun k W h0 hk hb => by
    have h1 := joinW_len ws k (by omega)
    have h2 := lenJ_le ws k
    have := WriteByte_any (b := 32) hb (by omega)
    rw [c32] at this
    have e2 : preW (ws.take k) = joinW (ws.take k) ++ [32] := by
      unfold preW
      rw [if_neg (fun e => by have := congrArg List.length e; rw [List.length_take, List.length_nil] at this; omega)]
    rw [e2]
    exact this)
  have WR : Hid (∀ k W, k < ws.length → Bd w.heap.size (preW (ws.take k)) W → Calls Tryz.prog 133 #[ptr w.heap.size, .string ⟨(ws.getD k []).toArray⟩] W fun e w' => e = .returned (.tuple #[]) ∧ Bd w.heap.size (joinW (ws.take (k + 1))) w' ∧ Below w.heap.size W w') := hid (fun k W hk hb => by
    have h1 := joinW_len ws k (by omega)
    have h2 := lenJ_le ws (k + 1)
    rw [lenJ_take hk] at h2
    have h3 := preW_len (ws.take k)
    have := write_any (x := ws.getD k []) hb (by omega)
    rw [take_snoc hk, joinW_snoc]
    exact this)
  have P0 : Hid (preW (ws.take 0) = joinW (ws.take 0)) := hid (by simp [preW, joinW])
  have FN : Hid (∀ W, Bd w.heap.size (joinW (ws.take ws.length)) W → Calls Tryz.prog 134 #[ptr w.heap.size] W fun e w' => e = .returned (.string ⟨(joinW ws).toArray⟩) ∧ Below w.heap.size W w') := hid (fun W hb => by
    rw [List.take_length] at hb
    exact String_any hb)
  clear hs c32 hl
  generalize hJ : ByteArray.mk (joinW ws).toArray = J at *
  clear hJ
  generalize hnw : ws.length = n at *
  have HN := hid hnw
  clear hnw
  go_enter Tryz.func101, Tryz.ntmps101
  go_wp2
  go_loopw [8] (fun iv wr => ∃ k : Nat, k ≤ n ∧ iv = .int .i64 (k : Int) ∧ Hid (Bd w.heap.size (joinW (ws.take k)) wr) ∧ Hid (Below w.heap.size w wr)) (fun iv _ => n - (intOf iv).toNat)
  case atStart => exact ⟨0, by omega, rfl, b0, bel0⟩
  case round =>
    obtain ⟨k, hk, rfl, hA, hB⟩ := hrel
    by_cases hlt : k < n
    · obtain ⟨g, o, rfl, _, h1⟩ := (HS.out.later hB.out).at (j := k) (by rw [HN.out]; exact hlt)
      have hlt' : (k : Int) < (n : Int) := by omega
      by_cases h0 : k = 0
      · have Q := hid (WR.out k wr hlt (by have := hA.out; rw [h0] at this ⊢; rw [P0.out]; exact this))
        have hz : ¬ (0 : Int) < (k : Int) := by omega
        generalize ByteArray.mk (ws.getD k []).toArray = X at *
        clear h0
        go_wp2_with (go_at_call 133; refine Q.out.mono ?_; rintro e w2 ⟨rfl, A2, B2⟩; have AA2 := hid A2; have BB2 := hid (hB.out.trans B2); clear A2 B2)
        go_roundw
        case rel => exact ⟨k + 1, by omega, by go_num, AA2, BB2⟩
        case measure => simp [intOf]; omega
      · have Q := hid (SP.out k wr (by omega) hlt hA.out)
        have hz : (0 : Int) < (k : Int) := by omega
        have WK := hid (fun W hW => WR.out k W hlt hW)
        clear h0
        generalize ByteArray.mk (ws.getD k []).toArray = X at *
        go_wp2_with (go_at_call 132; refine Q.out.mono ?_; rintro e w2 ⟨rfl, A2, B2⟩; have Q2 := hid (WK.out w2 A2); have BB2 := hid (hB.out.trans B2); clear A2 B2; refine Hid.out ?_)
        refine hid ?_
        go_wp2_with (go_at_call 133; refine Q2.out.mono ?_; rintro e w3 ⟨rfl, A3, B3⟩; have AA3 := hid A3; have BB3 := hid (BB2.out.trans B3); clear A3 B3)
        go_roundw
        case rel => exact ⟨k + 1, by omega, by go_num, AA3, BB3⟩
        case measure => simp [intOf]; omega
    · have hlt' : ¬ (k : Int) < (n : Int) := by omega
      have ek : k = n := by omega
      have Q := hid (FN.out wr (by rw [← ek]; exact hA.out))
      clear ek
      go_wp2_with (go_at_call 134; refine Q.out.mono ?_; rintro e w2 ⟨rfl, B2⟩; have BB2 := hid (hB.out.trans B2); clear B2)
      go_ret
      exact ⟨rfl, BB2.out⟩
end Go.Proofs.YtdhkdniddjnigaaGreatDoor

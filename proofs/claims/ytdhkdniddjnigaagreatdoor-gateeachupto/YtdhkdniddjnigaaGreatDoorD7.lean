import Derived.Test.YtdhkdniddjnigaaGreatDoorD6
namespace Go.Proofs.YtdhkdniddjnigaaGreatDoor
open Go.RowKit
set_option linter.unusedVariables false

/-- A word's kind. -/
def kindW (x : List UInt8) : Option Nat := findW x 1 (kN.drop 1)
def kindA (x : List UInt8) : Value := .tuple #[.int .i64 (((kindW x).getD 0 : Nat) : Int), .bool (kindW x).isSome]

set_option maxHeartbeats 800000 in
set_option maxRecDepth 1000000 in
theorem kindOf_any {x : List UInt8} {w : World} (T : Wf w) : Calls Tryz.prog 210 #[.string ⟨x.toArray⟩] w fun e w' => e = .returned (kindA x) ∧ w' = w := by
  have kl : kN.length = 9 := rfl
  have TC : Hid (∀ i, i < 9 → w.cell? ⟨5, i * 2, none⟩ = some (.string ⟨(kN.getD i []).toArray⟩)) := hid (fun i hi => by rw [kN_at hi]; exact (T.2 i hi).1)
  have EQ : Hid (∀ k, ((⟨(kN.getD k []).toArray⟩ : ByteArray).toList == (⟨x.toArray⟩ : ByteArray).toList) = decide (kN.getD k [] = x)) := hid (fun k => ba_ne)
  have FA : Hid (∀ k, k < 9 → findW x k (kN.drop k) = if kN.getD k [] = x then some k else findW x (k + 1) (kN.drop (k + 1))) := hid (fun k hk => findW_at (by rw [kl]; exact hk))
  have FE : Hid (findW x 9 (kN.drop 9) = none) := hid rfl
  have HA : Hid (findW x 1 (kN.drop 1) = kindW x) := hid rfl
  have key : ∀ D, kindW x = D → Hid (kindA x = .tuple #[.int .i64 ((D.getD 0 : Nat) : Int), .bool D.isSome]) := fun D h => hid (by unfold kindA; rw [h])
  generalize kindA x = AN at *
  generalize kindW x = AW at *
  clear T kl
  generalize hX : ByteArray.mk x.toArray = X at *
  clear hX
  go_enter Tryz.func210, Tryz.ntmps210
  go_wp2
  go_loopw [4] (fun iv wr => ∃ i : Nat, 1 ≤ i ∧ i ≤ 9 ∧ iv = .int .i64 (i : Int) ∧ wr = w ∧ Hid (findW x i (kN.drop i) = AW)) (fun iv _ => 9 - (intOf iv).toNat)
  case atStart => exact ⟨1, by omega, by omega, rfl, rfl, HA⟩
  case round =>
    obtain ⟨i, hi1, hi9, rfl, rfl, hR⟩ := hrel
    clear HA
    by_cases hlt : i < 9
    · have hlt' : (i : Int) ≤ 8 := by omega
      have hlt2 : (i : Int) < 9 := by omega
      have h1 := TC.out i hlt
      have eq := EQ.out i
      by_cases hx : kN.getD i [] = x
      · rw [decide_eq_true hx] at eq
        have fin := key (some i) (by rw [← hR.out, FA.out i hlt, if_pos hx])
        generalize ByteArray.mk (kN.getD i []).toArray = Y at *
        clear hx key
        go_wp2
        go_ret2
        exact ⟨by rw [fin.out]; rfl, rfl⟩
      · rw [decide_eq_false hx] at eq
        have nx : Hid (findW x (i + 1) (kN.drop (i + 1)) = AW) := hid (by rw [← hR.out, FA.out i hlt, if_neg hx])
        generalize ByteArray.mk (kN.getD i []).toArray = Y at *
        clear hx key
        go_wp2
        go_roundw
        case rel => exact ⟨i + 1, by omega, by omega, by go_num, trivial, nx⟩
        case measure => simp [intOf]; omega
    · have hlt' : ¬ (i : Int) ≤ 8 := by omega
      have ek : i = 9 := by omega
      have fin := key none (by rw [← hR.out, ek]; exact FE.out)
      clear ek key
      go_wp2
      go_ret2
      exact ⟨by rw [fin.out]; rfl, rfl⟩

/-- An op as it is read. -/
structure OpR where
  k : Int
  nm : List UInt8
  tx : List UInt8
  n : Nat
  m : Nat
def OpR.vals (o : OpR) : List Value := [.int .i64 o.k, .string ⟨o.nm.toArray⟩, .string ⟨o.tx.toArray⟩, .int .i64 (o.n : Int), .int .i64 (o.m : Int)]
def setO (c : Nat) (x : List UInt8) (o : OpR) : OpR :=
  if c = 78 then { o with nm := x } else if c = 84 then { o with tx := x } else if c = 75 then { o with n := (numW x).getD 0 } else { o with m := (numW x).getD 0 }
def okO (c : Nat) (x : List UInt8) : Bool := if c = 75 ∨ c = 77 then (numW x).isSome else true
theorem blk5f {B : Nat} {a b c d e : Value} {t : TypeId} {cs : List Comp} {w : World} (h : All (blkC B [a, b, c, d, e] t :: cs) w) : w.frozen? ⟨B, 0, none⟩ = false ∧ w.frozen? ⟨B, 1, none⟩ = false ∧ w.frozen? ⟨B, 2, none⟩ = false ∧ w.frozen? ⟨B, 3, none⟩ = false ∧ w.frozen? ⟨B, 4, none⟩ = false :=
  ⟨free_at h.1.2.1 0, free_at h.1.2.1 1, free_at h.1.2.1 2, free_at h.1.2.1 3, free_at h.1.2.1 4⟩

set_option maxHeartbeats 800000 in
set_option maxRecDepth 1000000 in
theorem setField_any {B c : Nat} {o : OpR} {x : List UInt8} {cs : List Comp} {w : World} (A : All (blkC B o.vals 42 :: cs) w) (V : Vars w) (hx : x.length ≤ 140737488355328) (hc : c = 78 ∨ c = 84 ∨ c = 75 ∨ c = 77) :
    Calls Tryz.prog 211 #[ptr B, .int .i32 (c : Int), .string ⟨x.toArray⟩] w fun e w' => e = .returned (.bool (okO c x)) ∧ All (blkC B (setO c x o).vals 42 :: cs) w' := by
  have N := hid (Number_any (l := x) V hx)
  unfold numA at N
  obtain ⟨k, nm, tx, n, m⟩ := o
  unfold OpR.vals at A
  simp only at A
  obtain ⟨y0, y1, y2, y3, y4, hlt⟩ := blk5 A (.head _)
  obtain ⟨f0, f1, f2, f3, f4⟩ := blk5f A
  clear V hx
  rcases hc with rfl | rfl | rfl | rfl
  · have A1 := hid (A.setBlk 1 (.string ⟨x.toArray⟩))
    clear A N
    have e1 : okO 78 x = true := rfl
    have e2 : Hid ((setO 78 x ⟨k, nm, tx, n, m⟩).vals = [.int .i64 k, .string ⟨x.toArray⟩, .string ⟨tx.toArray⟩, .int .i64 (n : Int), .int .i64 (m : Int)]) := hid rfl
    rw [e1]
    generalize (setO 78 x ⟨k, nm, tx, n, m⟩).vals = VV at *
    generalize ByteArray.mk nm.toArray = X1 at *
    generalize ByteArray.mk tx.toArray = X2 at *
    generalize ByteArray.mk x.toArray = X at *
    clear e1
    go_enter Tryz.func211, Tryz.ntmps211
    go_wp2
    go_ret
    exact ⟨rfl, by rw [e2.out]; exact A1.out⟩
  · have A1 := hid (A.setBlk 2 (.string ⟨x.toArray⟩))
    clear A N
    have e1 : okO 84 x = true := rfl
    have e2 : Hid ((setO 84 x ⟨k, nm, tx, n, m⟩).vals = [.int .i64 k, .string ⟨nm.toArray⟩, .string ⟨x.toArray⟩, .int .i64 (n : Int), .int .i64 (m : Int)]) := hid rfl
    rw [e1]
    generalize (setO 84 x ⟨k, nm, tx, n, m⟩).vals = VV at *
    generalize ByteArray.mk nm.toArray = X1 at *
    generalize ByteArray.mk tx.toArray = X2 at *
    generalize ByteArray.mk x.toArray = X at *
    clear e1
    go_enter Tryz.func211, Tryz.ntmps211
    go_wp2
    go_ret
    exact ⟨rfl, by rw [e2.out]; exact A1.out⟩
  · have A0 := hid A
    clear A
    have e1 : okO 75 x = (numW x).isSome := rfl
    have e2 : Hid ((setO 75 x ⟨k, nm, tx, n, m⟩).vals = [.int .i64 k, .string ⟨nm.toArray⟩, .string ⟨tx.toArray⟩, .int .i64 (((numW x).getD 0 : Nat) : Int), .int .i64 (m : Int)]) := hid rfl
    rw [e1]
    generalize (setO 75 x ⟨k, nm, tx, n, m⟩).vals = VV at *
    generalize (numW x).getD 0 = Z at *
    generalize (numW x).isSome = YB at *
    generalize ByteArray.mk nm.toArray = X1 at *
    generalize ByteArray.mk tx.toArray = X2 at *
    generalize ByteArray.mk x.toArray = X at *
    clear e1
    go_enter Tryz.func211, Tryz.ntmps211
    go_wp2_with (go_at_call 164; refine N.out.mono ?_; rintro e w1 ⟨rfl, b1⟩; have A2 := hid (A0.out.later b1); clear b1; obtain ⟨y0, y1, y2, y3, y4, hlt⟩ := blk5 A2.out (.head _); obtain ⟨f0, f1, f2, f3, f4⟩ := blk5f A2.out; refine Hid.out ?_)
    refine hid ?_
    have A3 := hid (A2.out.setBlk 3 (.int .i64 (Z : Int)))
    clear A2 A0
    go_wp2
    go_ret
    exact ⟨rfl, by rw [e2.out]; exact A3.out⟩
  · have A0 := hid A
    clear A
    have e1 : okO 77 x = (numW x).isSome := rfl
    have e2 : Hid ((setO 77 x ⟨k, nm, tx, n, m⟩).vals = [.int .i64 k, .string ⟨nm.toArray⟩, .string ⟨tx.toArray⟩, .int .i64 (n : Int), .int .i64 (((numW x).getD 0 : Nat) : Int)]) := hid rfl
    rw [e1]
    generalize (setO 77 x ⟨k, nm, tx, n, m⟩).vals = VV at *
    generalize (numW x).getD 0 = Z at *
    generalize (numW x).isSome = YB at *
    generalize ByteArray.mk nm.toArray = X1 at *
    generalize ByteArray.mk tx.toArray = X2 at *
    generalize ByteArray.mk x.toArray = X at *
    clear e1
    go_enter Tryz.func211, Tryz.ntmps211
    go_wp2_with (go_at_call 164; refine N.out.mono ?_; rintro e w1 ⟨rfl, b1⟩; have A2 := hid (A0.out.later b1); clear b1; obtain ⟨y0, y1, y2, y3, y4, hlt⟩ := blk5 A2.out (.head _); obtain ⟨f0, f1, f2, f3, f4⟩ := blk5f A2.out; refine Hid.out ?_)
    refine hid ?_
    have A3 := hid (A2.out.setBlk 4 (.int .i64 (Z : Int)))
    clear A2 A0
    go_wp2
    go_ret
    exact ⟨rfl, by rw [e2.out]; exact A3.out⟩
end Go.Proofs.YtdhkdniddjnigaaGreatDoor

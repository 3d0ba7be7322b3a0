import Derived.Test.YtfeppannfcbakaaGreatDoorJ18
import Derived.Laws.MakeOwn
namespace Go.Proofs.YtfeppannfcbakaaGreatDoor
open Go.RowKit
set_option linter.unusedVariables false
set_option maxRecDepth 100000

/-- Digits read as bytes. -/
def hexR : List UInt8 → Option (List UInt8)
  | [] => some []
  | [_] => none
  | a :: b :: r => match hexN a.toNat, hexN b.toNat with
    | some x, some y => (hexR r).map (UInt8.ofNat (16 * x + y) :: ·)
    | _, _ => none
def datR (l : List UInt8) : Option (List UInt8) := if l.length % 2 ≠ 0 ∨ 4608 < l.length then none else hexR l
def RDPost (x : Option (List UInt8)) (cs : List Comp) (e : Ending) (w' : World) : Prop := ∃ v, e = .returned (.tuple #[v, .bool x.isSome]) ∧ All (ownC 5 v (cellsB (x.getD [])) :: cs) w'
theorem hexR_at {l : List UInt8} {m : Nat} (h : m + 1 < l.length) : hexR (l.drop m) = match hexN (l.getD m 0).toNat, hexN (l.getD (m + 1) 0).toNat with
    | some x, some y => (hexR (l.drop (m + 2))).map (UInt8.ofNat (16 * x + y) :: ·)
    | _, _ => none := by
  rw [List.drop_eq_getElem_cons (show m < l.length by omega), List.drop_eq_getElem_cons h, hexR]
  have e1 : l.getD m 0 = l[m] := by rw [List.getD_eq_getElem?_getD, List.getElem?_eq_getElem (by omega)]; rfl
  have e2 : l.getD (m + 1) 0 = l[m + 1] := by rw [List.getD_eq_getElem?_getD, List.getElem?_eq_getElem h]; rfl
  rw [e1, e2]
theorem All.addMake {cs : List Comp} {w : World} (A : All cs w) (c : Nat) (hc : c ≤ 100000) : ∃ w', (Instr.makeSlice 32 (.int .i64 0) (.int .i64 (c : Int))).run Tryz.prog w = .ok (.slice (some ⟨w.heap.size, 0, none⟩) 0 c) w' ∧ All (ownC 5 (.slice (some ⟨w.heap.size, 0, none⟩) 0 c) [] :: cs) w' := by
  obtain ⟨i1, hi1, hz0, hz1, hz2⟩ := info_parts Tryz.info5
  have hr := run_makeSlice (P := Tryz.prog) (w := w) 32 5 i1 (.int .u8 0) Tryz.underlying32 hi1 hz0 .i64 .i64 0 (c : Int) (Int.le_refl _) (by omega) (by rw [hz1]; simp; omega) (by rw [hz2]; omega) (by omega)
  simp only [Int.toNat_zero, Int.toNat_natCast] at hr
  refine ⟨_, hr, A.addOwn (ba w _) ?_⟩
  rw [hz1]
  exact World.ownsRow_made w _ c (Nat.le_refl _) (by unfold maxLen; omega) (by rw [size_madeCells])
set_option maxHeartbeats 3200000 in
set_option maxRecDepth 1000000 in
theorem readData_any {l : List UInt8} {cs : List Comp} {w : World} (A : All cs w) (hl : l.length ≤ 140737488355328) : Calls Tryz.prog 151 #[.string ⟨l.toArray⟩] w (RDPost (datR l) cs) := by
  have HA := hid A
  clear A
  have sz : (⟨l.toArray⟩ : ByteArray).size = l.length := by simp [ByteArray.size]
  have IX : Hid (∀ k, k < l.length → ∀ W, (Instr.index 9 (.string ⟨l.toArray⟩) (.int .i64 (k : Int))).run Tryz.prog W = .ok (.int .u8 ((l.getD k 0).toNat : Int)) W) := hid fun k hk W => idx_at hk W
  have HAT : Hid (∀ m, m + 1 < l.length → hexR (l.drop m) = match hexN (l.getD m 0).toNat, hexN (l.getD (m + 1) 0).toNat with
    | some x, some y => (hexR (l.drop (m + 2))).map (UInt8.ofNat (16 * x + y) :: ·)
    | _, _ => none) := hid (fun k hk => hexR_at hk)
  by_cases ho : l.length % 2 ≠ 0
  · have e : datR l = none := by unfold datR; rw [if_pos (Or.inl ho)]
    rw [e]
    generalize ByteArray.mk l.toArray = X at *
    generalize l.length = n at *
    have e1 : (n : Int) % 2 = 1 := by omega
    clear ho IX HAT
    go_enter Tryz.func151, Tryz.ntmps151
    go_wp2
    go_ret2
    exact ⟨_, rfl, All.addNil HA.out⟩
  · have ho' : l.length % 2 = 0 := by omega
    by_cases hg : 4608 < l.length
    · have e : datR l = none := by unfold datR; rw [if_pos (Or.inr hg)]
      rw [e]
      generalize ByteArray.mk l.toArray = X at *
      generalize l.length = n at *
      have e1 : (n : Int) % 2 = 0 := by omega
      have e2 : (4608 : Int) < (n : Int) := by omega
      clear ho IX HAT
      go_enter Tryz.func151, Tryz.ntmps151
      go_wp2
      go_ret2
      exact ⟨_, rfl, All.addNil HA.out⟩
    · have e : datR l = hexR l := by unfold datR; rw [if_neg (by omega)]
      rw [e]
      have H0 : Hid (hexR l = (hexR (l.drop 0)).map ([] ++ ·)) := hid (by simp)
      have FE : Hid (hexR (l.drop l.length) = some []) := hid (by rw [List.drop_length]; rfl)
      obtain ⟨wm, hm, AM⟩ := HA.out.addMake (l.length / 2) (by omega)
      have HM := hid AM
      generalize hX : ByteArray.mk l.toArray = X at *
      generalize hn : l.length = n at *
      generalize hRR : hexR l = RR at *
      clear hX hn AM hRR e
      have e1 : (n : Int) % 2 = 0 := by omega
      have e2 : ¬ (4608 : Int) < (n : Int) := by omega
      have e3 : ((n / 2 : Nat) : Int) = (n : Int) / 2 := by omega
      rw [e3] at hm
      clear ho hl
      go_enter Tryz.func151, Tryz.ntmps151
      go_wp2
      go_loopw [4, 5] (fun av iv wr => ∃ (m : Nat) (acc : List UInt8), m ≤ n ∧ m % 2 = 0 ∧ iv = .int .i64 (m : Int) ∧ Hid (acc.length ≤ m) ∧ Hid (RR = (hexR (l.drop m)).map (acc ++ ·)) ∧ Hid (All (ownC 5 av (cellsB acc) :: cs) wr)) (fun _ iv _ => n - (intOf iv).toNat)
      case atStart => exact ⟨0, [], by omega, rfl, rfl, hid (Nat.le_refl _), H0, HM⟩
      case round =>
        obtain ⟨m, acc, hk, hm2, rfl, hacc, hR, HK⟩ := hrel
        clear H0 HM hm
        by_cases hlt : m < n
        · have hlt' : (m : Int) < (n : Int) := by omega
          have i0 := IX.out m hlt
          have i1 := IX.out (m + 1) (by omega)
          rw [show ((m + 1 : Nat) : Int) = (m : Int) + 1 by omega] at i1
          have hm9 : (m : Int) + 2 ≤ 4610 := by omega
          have AT := hid (HAT.out m (by omega))
          have C0 : Hid (∀ W : World, Calls Tryz.prog 104 #[.string ⟨#[48, 49, 50, 51, 52, 53, 54, 55, 56, 57, 97, 98, 99, 100, 101, 102]⟩, .int .u8 ((l.getD m 0).toNat : Int)] W fun e w' => e = .returned (.int .i64 (match hexN (l.getD m 0).toNat with | none => -1 | some d => (d : Int))) ∧ w' = W) := hid (fun W => index_any _ W)
          have C1 : Hid (∀ W : World, Calls Tryz.prog 104 #[.string ⟨#[48, 49, 50, 51, 52, 53, 54, 55, 56, 57, 97, 98, 99, 100, 101, 102]⟩, .int .u8 ((l.getD (m + 1) 0).toNat : Int)] W fun e w' => e = .returned (.int .i64 (match hexN (l.getD (m + 1) 0).toNat with | none => -1 | some d => (d : Int))) ∧ w' = W) := hid (fun W => index_any _ W)
          clear IX HAT FE
          generalize (l.getD m 0) = B0 at *
          generalize (l.getD (m + 1) 0) = B1 at *
          have RET : Hid (RR = none → ∀ W, All cs W → All (ownC 5 (.slice none 0 0) (cellsB (RR.getD [])) :: cs) W) := hid (fun h W hW => by rw [h]; exact All.addNil hW)
          cases h0 : hexN B0.toNat with
          | none =>
            rw [h0] at C0 AT
            have RN : Hid (RR = none) := hid (by rw [hR.out, AT.out]; rfl)
            have KC := hid HK.out.tail
            clear HK h0 AT
            generalize (B0.toNat : Int) = b0 at *
            have C1' : Hid (∀ W : World, Calls Tryz.prog 104 #[.string ⟨#[48, 49, 50, 51, 52, 53, 54, 55, 56, 57, 97, 98, 99, 100, 101, 102]⟩, .int .u8 (B1.toNat : Int)] W fun e w' => (∃ q : Int, e = .returned (.int .i64 q)) ∧ w' = W) := hid (fun W => (C1.out W).mono fun e w' h => ⟨⟨_, h.1⟩, h.2⟩)
            clear C1
            generalize (B1.toNat : Int) = b1 at *
            go_wp2_with (first | (go_at_call 104; refine (C0.out _).mono ?_; rintro e w1 ⟨rfl, rfl⟩; simp only) | (go_at_call 104; refine (C1'.out _).mono ?_; rintro e w1 ⟨⟨q, rfl⟩, rfl⟩))
            go_ret2
            exact ⟨_, by rw [RN.out]; rfl, RET.out RN.out _ KC.out⟩
          | some x =>
            cases h1 : hexN B1.toNat with
            | none =>
              rw [h0] at C0 AT
              rw [h1] at C1 AT
              have RN : Hid (RR = none) := hid (by rw [hR.out, AT.out]; rfl)
              have KC := hid HK.out.tail
              have hx0 : ¬ (x : Int) < 0 := by omega
              clear HK h0 h1 AT
              generalize (B0.toNat : Int) = b0 at *
              generalize (B1.toNat : Int) = b1 at *
              go_wp2_with (first | (go_at_call 104; refine (C0.out _).mono ?_; rintro e w1 ⟨rfl, rfl⟩; simp only) | (go_at_call 104; refine (C1.out _).mono ?_; rintro e w1 ⟨rfl, rfl⟩; simp only))
              go_ret2
              exact ⟨_, by rw [RN.out]; rfl, RET.out RN.out _ KC.out⟩
            | some y =>
              rw [h0] at C0 AT
              rw [h1] at C1 AT
              have hx := hexN_lt h0
              have hy := hexN_lt h1
              clear h0 h1 RET
              have ob : bits BinOp.or IntKind.i64 ((x : Int) * 16) (y : Int) % 256 = ((UInt8.ofNat (16 * x + y)).toNat : Int) := by
                have : ∀ a b : Fin 16, bits BinOp.or IntKind.i64 ((a.val : Int) * 16) (b.val : Int) % 256 = ((UInt8.ofNat (16 * a.val + b.val)).toNat : Int) := by decide +kernel
                exact this ⟨x, hx⟩ ⟨y, hy⟩
              obtain ⟨ao6, c6, w6, hr6, A6⟩ := app_byte HK.out (UInt8.ofNat (16 * x + y)) (by have := hacc.out; omega)
              have R6 := hid hr6
              have B6 := hid A6
              have NR : Hid (RR = (hexR (l.drop (m + 2))).map ((acc ++ [UInt8.ofNat (16 * x + y)]) ++ ·)) := hid (by
                rw [hR.out, AT.out, Option.map_map]
                congr 1
                funext z
                simp)
              have hx0 : ¬ (x : Int) < 0 := by omega
              have hy0 : ¬ (y : Int) < 0 := by omega
              clear hr6 A6 HK AT hR
              generalize (B0.toNat : Int) = b0 at *
              generalize (B1.toNat : Int) = b1 at *
              generalize ((UInt8.ofNat (16 * x + y)).toNat : Int) = VB at *
              go_wp2_with (first | (go_at_call 104; refine (C0.out _).mono ?_; rintro e w1 ⟨rfl, rfl⟩; simp only) | (go_at_call 104; refine (C1.out _).mono ?_; rintro e w1 ⟨rfl, rfl⟩; simp only) | (at_builtin; refine wpList_append_run rfl _ _ 32 rfl _ _ _ _ rfl rfl R6.out ?_))
              go_roundw
              case rel => exact ⟨m + 2, _, by omega, by omega, by go_num, hid (by have := hacc.out; simp; omega), NR, B6⟩
              case measure => simp [intOf]; omega
        · have hlt' : ¬ (m : Int) < (n : Int) := by omega
          have em : m = n := by omega
          have RR2 : Hid (RR = some acc) := hid (by rw [hR.out, em, FE.out]; simp)
          have KF : Hid (All (ownC 5 u4 (cellsB (RR.getD [])) :: cs) wr) := hid (by rw [RR2.out]; exact HK.out)
          clear em HK
          go_wp2
          go_ret2
          exact ⟨_, by rw [RR2.out]; rfl, KF.out⟩
end Go.Proofs.YtfeppannfcbakaaGreatDoor

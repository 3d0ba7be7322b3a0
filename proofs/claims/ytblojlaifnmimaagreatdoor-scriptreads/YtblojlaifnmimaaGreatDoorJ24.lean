import Derived.Test.YtblojlaifnmimaaGreatDoorRa
namespace Go.Proofs.YtblojlaifnmimaaGreatDoor
open Go.RowKit
set_option linter.unusedVariables false

theorem passW_at : ∀ {l : List UInt8} {k : Nat}, k < l.length → (∀ j, j < k → l.getD j 0 = 32 ∨ l.getD j 0 = 9) → l.getD k 0 ≠ 32 → l.getD k 0 ≠ 9 → passW l = decide (l.getD k 0 = 35)
  | [], k, hk, _, _, _ => by simp at hk
  | b :: r, 0, _, _, h1, h2 => by
    have h1 : b ≠ 32 := by simpa using h1
    have h2 : b ≠ 9 := by simpa using h2
    rw [passW, if_neg (by rintro (h | h) <;> contradiction)]
    simp
  | b :: r, k + 1, hk, hj, h1, h2 => by
    have h0 : b = 32 ∨ b = 9 := by simpa using hj 0 (by omega)
    rw [passW, if_pos h0, passW_at (k := k) (by simpa using hk) (fun j hj' => by simpa using hj (j + 1) (by omega)) (by simpa using h1) (by simpa using h2)]
    simp
theorem passW_all : ∀ {l : List UInt8}, (∀ j, j < l.length → l.getD j 0 = 32 ∨ l.getD j 0 = 9) → passW l = true
  | [], _ => rfl
  | b :: r, hj => by
    have h0 : b = 32 ∨ b = 9 := by simpa using hj 0 (by simp)
    rw [passW, if_pos h0]
    exact passW_all (fun j hj' => by simpa using hj (j + 1) (by simpa using hj'))

set_option maxHeartbeats 1600000 in
set_option maxRecDepth 1000000 in
/-- The document's passed. -/
theorem rpassed_any {l : List UInt8} {w : World} (hl : l.length ≤ 140737488355328) : Calls Tryz.prog 19 #[.string ⟨l.toArray⟩] w fun e w' => e = .returned (.bool (passW l)) ∧ w' = w := by
  have hz : (⟨l.toArray⟩ : ByteArray).size = l.length := by simp [ByteArray.size]
  have IX : Hid (∀ k, k < l.length → ∀ W, (Instr.index 9 (.string ⟨l.toArray⟩) (.int .i64 (k : Int))).run Tryz.prog W = .ok (.int .u8 ((l.getD k 0).toNat : Int)) W) := hid (fun k hk W => idx_at hk W)
  have F1 : Hid (∀ k, k < l.length → (∀ j, j < k → l.getD j 0 = 32 ∨ l.getD j 0 = 9) → l.getD k 0 ≠ 32 → l.getD k 0 ≠ 9 → passW l = decide (l.getD k 0 = 35)) := hid (fun k => passW_at)
  have F2 : Hid ((∀ j, j < l.length → l.getD j 0 = 32 ∨ l.getD j 0 = 9) → passW l = true) := hid passW_all
  generalize passW l = PW at *
  generalize hX : ByteArray.mk l.toArray = X at *
  clear hX
  generalize hn : l.length = n at *
  clear hn
  go_enter Tryz.func19, Tryz.ntmps19
  go_wp2
  go_loopw [3] (fun iv wr => ∃ k : Nat, k ≤ n ∧ iv = .int .i64 (k : Int) ∧ Hid (∀ j, j < k → l.getD j 0 = 32 ∨ l.getD j 0 = 9) ∧ wr = w) (fun iv _ => n - (intOf iv).toNat)
  case atStart => exact ⟨0, by omega, rfl, hid (fun j hj => by omega), rfl⟩
  case round =>
    obtain ⟨k, hk, rfl, hj, rfl⟩ := hrel
    by_cases hlt : k < n
    · have hlt' : (k : Int) < (n : Int) := by omega
      have ix := IX.out k hlt
      generalize hb : l.getD k 0 = b at ix
      have HB := hid hb
      clear hb
      by_cases h32 : b.toNat = 32
      · have bi : (b.toNat : Int) = 32 := by omega
        rw [bi] at ix
        have nx : Hid (∀ j, j < k + 1 → l.getD j 0 = 32 ∨ l.getD j 0 = 9) := hid (fun j hj' => by
          by_cases hjk : j < k
          · exact hj.out j hjk
          · have : j = k := by omega
            subst this
            rw [HB.out]
            exact Or.inl (UInt8.toNat_inj.1 h32))
        clear h32 bi
        go_wp2
        go_roundw
        case rel => exact ⟨k + 1, by omega, by go_num, nx, trivial⟩
        case measure => simp [intOf]; omega
      · have b32 : ((b.toNat : Int) != 32) = true := by simp; omega
        by_cases h9 : b.toNat = 9
        · have bi : (b.toNat : Int) = 9 := by omega
          rw [bi] at ix
          have nx : Hid (∀ j, j < k + 1 → l.getD j 0 = 32 ∨ l.getD j 0 = 9) := hid (fun j hj' => by
            by_cases hjk : j < k
            · exact hj.out j hjk
            · have : j = k := by omega
              subst this
              rw [HB.out]
              exact Or.inr (UInt8.toNat_inj.1 h9))
          clear h32 h9 bi b32
          go_wp2
          go_roundw
          case rel => exact ⟨k + 1, by omega, by go_num, nx, trivial⟩
          case measure => simp [intOf]; omega
        · have b9 : ((b.toNat : Int) != 9) = true := by simp; omega
          have fin : Hid (PW = ((b.toNat : Int) == 35)) := hid (by
            rw [F1.out k hlt hj.out (by rw [HB.out]; intro e; exact h32 (by rw [e]; rfl)) (by rw [HB.out]; intro e; exact h9 (by rw [e]; rfl)), HB.out]
            rw [Bool.eq_iff_iff, decide_eq_true_eq, beq_iff_eq]
            constructor
            · intro e; rw [e]; rfl
            · intro e; exact UInt8.toNat_inj.1 (by simpa using Int.ofNat.inj e))
          clear h32 h9
          go_wp2
          go_ret
          exact ⟨by rw [fin.out]; rfl, rfl⟩
    · have hlt' : ¬ (k : Int) < (n : Int) := by omega
      have fin : Hid (PW = true) := hid (F2.out (fun j hj' => hj.out j (by omega)))
      go_wp2
      go_ret
      exact ⟨by rw [fin.out]; rfl, rfl⟩
end Go.Proofs.YtblojlaifnmimaaGreatDoor

namespace Go.Proofs.YtblojlaifnmimaaGreatDoor
open Go.RowKit
set_option linter.unusedVariables false

theorem drop_at {l : List UInt8} {i : Nat} (hi : i < l.length) : l.drop i = l.getD i 0 :: l.drop (i + 1) := by
  rw [List.drop_eq_getElem_cons hi, List.getD_eq_getElem?_getD, List.getElem?_eq_getElem hi]
  rfl
theorem lines_nl {l : List UInt8} {f i : Nat} (hi : i < l.length) (h : l.getD i 0 = 10) : linesW (cutW l f i) (l.drop i) = cutW l f i :: linesW (cutW l (i + 1) (i + 1)) (l.drop (i + 1)) := by
  rw [drop_at hi, linesW, if_pos h]
  simp [cutW]
theorem lines_go {l : List UInt8} {f i : Nat} (hf : f ≤ i) (hi : i < l.length) (h : l.getD i 0 ≠ 10) : linesW (cutW l f i) (l.drop i) = linesW (cutW l f (i + 1)) (l.drop (i + 1)) := by
  rw [drop_at hi, linesW, if_neg h, cutW_snoc hf hi]
theorem lines_end {l : List UInt8} {f : Nat} : linesW (cutW l f l.length) (l.drop l.length) = [l.drop f] := by
  rw [List.drop_length, linesW]
  unfold cutW
  rw [List.take_of_length_le (by simp)]

set_option maxHeartbeats 1600000 in
set_option maxRecDepth 1000000 in
/-- The document's lines. -/
theorem rlines_any {l : List UInt8} {cs : List Comp} {w : World} (h : All cs w) (hl : l.length ≤ 65536) : Calls Tryz.prog 18 #[.string ⟨l.toArray⟩] w fun e w' => ∃ ao c, e = .returned (.slice ao (linesW [] l).length c) ∧ All (ownC 9 (.slice ao (linesW [] l).length c) (txW (linesW [] l)) :: cs) w' := by
  have hz : (⟨l.toArray⟩ : ByteArray).size = l.length := by simp [ByteArray.size]
  have IX : Hid (∀ k, k < l.length → ∀ W, (Instr.index 9 (.string ⟨l.toArray⟩) (.int .i64 (k : Int))).run Tryz.prog W = .ok (.int .u8 ((l.getD k 0).toNat : Int)) W) := hid (fun k hk W => idx_at hk W)
  have CR : Hid (∀ f i, f ≤ i → i ≤ l.length → ∀ W, (Instr.slice 9 (.string ⟨l.toArray⟩) (some (.int .i64 (f : Int))) (some (.int .i64 (i : Int))) none).run Tryz.prog W = .ok (.string ⟨(cutW l f i).toArray⟩) W) := hid (fun f i hf hi W => cut_run hf hi W)
  have CE : Hid (∀ f, f ≤ l.length → ∀ W, (Instr.slice 9 (.string ⟨l.toArray⟩) (some (.int .i64 (f : Int))) none none).run Tryz.prog W = .ok (.string ⟨(l.drop f).toArray⟩) W) := hid (fun f hf W => cut_end hf W)
  have F1 : Hid (∀ f i, i < l.length → l.getD i 0 = 10 → linesW (cutW l f i) (l.drop i) = cutW l f i :: linesW (cutW l (i + 1) (i + 1)) (l.drop (i + 1))) := hid (fun f i => lines_nl)
  have F2 : Hid (∀ f i, f ≤ i → i < l.length → l.getD i 0 ≠ 10 → linesW (cutW l f i) (l.drop i) = linesW (cutW l f (i + 1)) (l.drop (i + 1))) := hid (fun f i => lines_go)
  have F3 : Hid (∀ f, linesW (cutW l f l.length) (l.drop l.length) = [l.drop f]) := hid (fun f => lines_end)
  have F0 : Hid (linesW [] l = [] ++ linesW (cutW l 0 0) (l.drop 0)) := hid (by simp [cutW])
  have N := hid (All.addNil (e := 9) h)
  clear h
  generalize hLS : linesW [] l = LS at *
  clear hLS
  generalize hX : ByteArray.mk l.toArray = X at *
  clear hX
  generalize hn : l.length = n at *
  clear hn
  go_enter Tryz.func18, Tryz.ntmps18
  go_wp2
  go_loopw [3, 4, 5] (fun ov fv iv wr => ∃ (i f : Nat) (O : Ws) (ao : Option Addr) (c : Nat), i ≤ n ∧ f ≤ i ∧ O.length ≤ i ∧ iv = .int .i64 (i : Int) ∧ fv = .int .i64 (f : Int) ∧ ov = .slice ao O.length c ∧ Hid (LS = O ++ linesW (cutW l f i) (l.drop i)) ∧ Hid (All (ownC 9 (.slice ao O.length c) (txW O) :: cs) wr)) (fun _ _ iv _ => n - (intOf iv).toNat)
  case atStart => exact ⟨0, 0, [], none, 0, by omega, by omega, by simp, rfl, rfl, rfl, F0, N⟩
  case round =>
    obtain ⟨i, f, O, ao, c, hi, hf, hOl, rfl, rfl, rfl, hL, HA⟩ := hrel
    clear N F0
    by_cases hlt : i < n
    · have hlt' : (i : Int) < (n : Int) := by omega
      have ix := IX.out i hlt
      generalize hb : l.getD i 0 = b at ix
      have HB := hid hb
      clear hb
      by_cases h10 : b.toNat = 10
      · have bi : (b.toNat : Int) = 10 := by omega
        rw [bi] at ix
        have cr := CR.out f i hf hi
        obtain ⟨ao1, c1, w2, hr, A2⟩ := app_txt HA.out (cutW l f i) (by omega)
        have R := hid hr
        have K2 := hid A2
        have EL := hid (show (O ++ [cutW l f i]).length = O.length + 1 by simp)
        have nx : Hid (LS = (O ++ [cutW l f i]) ++ linesW (cutW l (i + 1) (i + 1)) (l.drop (i + 1))) := hid (by rw [hL.out, F1.out f i hlt (by rw [HB.out]; exact UInt8.toNat_inj.1 h10)]; simp)
        clear hr A2 h10 bi
        generalize hno : O.length = no at *
        generalize ByteArray.mk (cutW l f i).toArray = Y at *
        go_wp2_with (at_builtin; refine wpList_append_run rfl _ _ 46 rfl _ _ _ _ rfl rfl R.out ?_)
        go_roundw
        case rel => exact ⟨i + 1, i + 1, O ++ [cutW l f i], ao1, c1, by omega, by omega, by rw [EL.out]; omega, by go_num, by go_num, by rw [EL.out], nx, hid (by rw [EL.out]; exact K2.out)⟩
        case measure => simp [intOf]; omega
      · have bn : ((b.toNat : Int) == 10) = false := by simp; omega
        have nx : Hid (LS = O ++ linesW (cutW l f (i + 1)) (l.drop (i + 1))) := hid (by rw [hL.out, F2.out f i hf hlt (by rw [HB.out]; intro e; exact h10 (by rw [e]; rfl))])
        clear h10
        generalize hno : O.length = no at *
        go_wp2
        go_roundw
        case rel => exact ⟨i + 1, f, O, ao, c, by omega, by omega, by omega, by go_num, rfl, by rw [hno], nx, hid (by rw [hno]; exact HA.out)⟩
        case measure => simp [intOf]; omega
    · have hlt' : ¬ (i : Int) < (n : Int) := by omega
      have ce := CE.out f (by omega)
      have ei : i = n := by omega
      obtain ⟨ao1, c1, w2, hr, A2⟩ := app_txt HA.out (l.drop f) (by omega)
      have R := hid hr
      have EL : Hid (O ++ [l.drop f] = LS) := hid (by rw [hL.out, ei, F3.out])
      have E2 : Hid (LS.length = O.length + 1) := hid (by rw [← EL.out]; simp)
      rw [EL.out] at A2
      have K2 := hid A2
      clear hr A2 ei
      generalize hno : O.length = no at *
      generalize ByteArray.mk (l.drop f).toArray = Y at *
      go_wp2_with (at_builtin; refine wpList_append_run rfl _ _ 46 rfl _ _ _ _ rfl rfl R.out ?_)
      go_ret
      exact ⟨ao1, c1, by rw [E2.out]; rfl, by rw [E2.out]; exact K2.out⟩
end Go.Proofs.YtblojlaifnmimaaGreatDoor

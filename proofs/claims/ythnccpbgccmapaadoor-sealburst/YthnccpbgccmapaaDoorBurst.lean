import Derived.Test.YthnccpbgccmapaaDoorToldLaw
namespace Go.Proofs.YthnccpbgccmapaaDoor
open Go.RowKit
set_option linter.unusedVariables false

/-- What the first bits of a mask have turned between two places. -/
def Turned (bs : List UInt8) (fr to bit k : Nat) (b : List UInt8) (n : Nat) : Prop :=
  ∃ M, M < 2 ^ k ∧ b.length = bs.length ∧ b.take fr = bs.take fr ∧ b.drop to = bs.drop to ∧ valN ((b.drop fr).take (to - fr)) = valN ((bs.drop fr).take (to - fr)) ^^^ 2 ^ bit * M ∧ (n = 0 ↔ M = 0) ∧ n ≤ k

theorem Turned.start (bs : List UInt8) (fr to bit : Nat) : Turned bs fr to bit 0 bs 0 :=
  ⟨0, by simp, rfl, rfl, rfl, by simp, by simp, Nat.le_refl _⟩

theorem Turned.skip {bs : List UInt8} {fr to bit k : Nat} {b : List UInt8} {n : Nat} (h : Turned bs fr to bit k b n) : Turned bs fr to bit (k + 1) b n := by
  obtain ⟨M, h1, h2⟩ := h
  exact ⟨M, Nat.lt_of_lt_of_le h1 (Nat.pow_le_pow_right (by decide) (by omega)), h2.1, h2.2.1, h2.2.2.1, h2.2.2.2.1, h2.2.2.2.2.1, by omega⟩

theorem bit_add (M k : Nat) (h : M < 2 ^ k) (bit : Nat) : 2 ^ bit * (M + 2 ^ k) = 2 ^ bit * M ^^^ 2 ^ (bit + k) := by
  have e : M + 2 ^ k = M ^^^ 2 ^ k := by
    have := split_low k (M + 2 ^ k)
    have e1 : (M + 2 ^ k) / 2 ^ k = 1 := by rw [Nat.add_div_right _ (Nat.two_pow_pos k), Nat.div_eq_of_lt h]
    have e2 : (M + 2 ^ k) % 2 ^ k = M := by rw [Nat.add_mod_right, Nat.mod_eq_of_lt h]
    rw [e1, e2, Nat.mul_one, Nat.xor_comm] at this
    exact this
  rw [e, mul_xor, ← Nat.pow_add]

theorem Turned.turn {bs : List UInt8} {fr to bit k : Nat} {b : List UInt8} {n : Nat} (h : Turned bs fr to bit k b n) (hto : to ≤ bs.length) (hat : fr + (bit + k) / 8 < to) (y : UInt8) (hy : y.toNat = 2 ^ ((bit + k) % 8)) :
    Turned bs fr to bit (k + 1) (b.set (fr + (bit + k) / 8) (b.getD (fr + (bit + k) / 8) 0 ^^^ y)) (n + 1) := by
  obtain ⟨M, h1, h2, h3, h4, h5, h6, h7⟩ := h
  refine ⟨M + 2 ^ k, ?_, by rw [List.length_set, h2], ?_, ?_, ?_, ?_, by omega⟩
  · rw [Nat.pow_succ]; omega
  · rw [List.take_set_of_le (by omega)]; exact h3
  · rw [List.drop_set_of_lt hat]; exact h4
  · have hg : b.getD (fr + (bit + k) / 8) 0 = ((b.drop fr).take (to - fr)).getD ((bit + k) / 8) 0 := by
      rw [List.getD_eq_getElem?_getD, List.getD_eq_getElem?_getD, List.getElem?_take, if_pos (by omega), List.getElem?_drop]
    have hs : ((b.set (fr + (bit + k) / 8) (b.getD (fr + (bit + k) / 8) 0 ^^^ y)).drop fr).take (to - fr) = ((b.drop fr).take (to - fr)).set ((bit + k) / 8) (((b.drop fr).take (to - fr)).getD ((bit + k) / 8) 0 ^^^ y) := by
      rw [hg, List.drop_set, if_neg (by omega), Nat.add_sub_cancel_left, List.take_set]
    rw [hs, valN_turn _ _ (by simp; omega), h5, bit_add M k h1, hy, ← Nat.pow_add, Nat.xor_assoc]
    congr 3
    have := Nat.div_add_mod (bit + k) 8
    rw [this]
  · have := Nat.two_pow_pos k
    omega

theorem told_burst {p T1 T : List UInt8} {b1 b2 n1 n2 : Nat} (hp : p.length ≤ 65536) (h1 : Turned (sealP p) 0 9 b1 32 T1 n1) (h2 : Turned T1 9 (sealP p).length b2 32 T n2) (hb1 : b1 ≤ 72) (hb2 : b2 ≤ 8 * (p.length + 4)) (hn : n1 + n2 ≠ 0) :
    ∃ e, openP T = ([], e) ∧ e ≠ 0 := by
  obtain ⟨M1, m1, l1, t1, d1, v1, z1, _⟩ := h1
  obtain ⟨M2, m2, l2, t2, d2, v2, z2, _⟩ := h2
  have hl : (sealP p).length = p.length + 13 := sealP_length p
  have ht9 : (sealP p).take 9 = leadP p.length ++ sumB (sumN (leadP p.length)) := rfl
  have hd9 : (sealP p).drop 9 = p ++ sumB (sumN p) := rfl
  have hT : T.length = p.length + 13 := by omega
  simp only [List.drop_zero, Nat.sub_zero] at v1
  rw [ht9, ← t2] at v1
  by_cases hm : noMark T
  · exact ⟨22, openP_err (by unfold headP; rw [if_pos hm]) (by decide), by decide⟩
  · cases hS : isSum ((T.drop 5).take 4) (sumN (T.take 5)) with
    | false => exact ⟨24, head_sum_false hm (by omega) hS, by decide⟩
    | true =>
      have hM1 : M1 = 0 := head_told (by omega) (by simpa using m1) hb1 v1 hS
      rw [hM1, Nat.mul_zero, Nat.xor_zero] at v1
      have et : T.take 9 = leadP p.length ++ sumB (sumN (leadP p.length)) := valN_inj (by rw [head_len]; simp; omega) v1
      have e : T = (leadP p.length ++ sumB (sumN (leadP p.length))) ++ T.drop 9 := by rw [← et, List.take_append_drop]
      rw [d1, hd9] at v2
      have q1 : (T.drop 9).take ((sealP p).length - 9) = T.drop 9 := List.take_of_length_le (by simp; omega)
      have q2 : (p ++ sumB (sumN p)).take ((sealP p).length - 9) = p ++ sumB (sumN p) := List.take_of_length_le (by simp [sumB_length]; omega)
      rw [q1, q2] at v2
      have hM2 : M2 ≠ 0 := fun h => hn (by rw [z1.2 hM1, z2.2 h])
      refine ⟨24, ?_, by decide⟩
      rw [e]
      refine open_body hp (by simp; omega) ?_
      apply Bool.eq_false_iff.2
      intro hB
      exact hM2 (body_told (by simp; omega) (by simpa using m2) (by simp; omega) v2 hB)

set_option maxHeartbeats 3200000 in
set_option maxRecDepth 1000000 in
theorem turn_any {w : World} {base g cap fr to bit mask : Nat} {bs : List UInt8} (ho : w.ownsRow base 5 1 (.slice (some ⟨g, 0, none⟩) bs.length cap) bs.length (cellsB bs)) (hto : to ≤ bs.length) (hlen : bs.length ≤ 1000000) (hbit : bit ≤ 10000000) (hm : mask < 4294967296) (hfr : fr ≤ to) :
    Calls Tryd.prog 19 #[.slice (some ⟨g, 0, none⟩) bs.length cap, .int .i64 (fr : Int), .int .i64 (to : Int), .int .i64 (bit : Int), .int .u32 (mask : Int)] w fun e w' => ∃ n b, e = .returned (.int .i64 ((n : Nat) : Int)) ∧ Turned bs fr to bit 32 b n ∧ w'.ownsRow base 5 1 (.slice (some ⟨g, 0, none⟩) bs.length cap) b.length (cellsB b) ∧ Fr [g] w w' := by
  have HO := hid ho
  clear ho
  go_enter Tryd.func19, Tryd.ntmps19
  go_wp2
  go_loopw [4, 11, 12] (fun mv nv iv wr => ∃ (k n : Nat) (b : List UInt8), k ≤ 32 ∧ iv = .int .i64 (k : Int) ∧ mv = .int .u32 ((mask / 2 ^ k : Nat) : Int) ∧ nv = .int .i64 (n : Int) ∧ Hid (Turned bs fr to bit k b n ∧ wr.ownsRow base 5 1 (.slice (some ⟨g, 0, none⟩) bs.length cap) b.length (cellsB b) ∧ Fr [g] w wr)) (fun _ _ iv _ => 32 - (intOf iv).toNat)
  case atStart => exact ⟨0, 0, bs, by omega, rfl, by simp, rfl, Turned.start _ _ _ _, HO.out, Fr.refl _ _⟩
  case round =>
    obtain ⟨k, n, b, hk, rfl, rfl, rfl, hrel⟩ := hrel
    by_cases hlt : k < 32
    · have hmk : mask / 2 ^ k < 4294967296 := Nat.lt_of_le_of_lt (Nat.div_le_self _ _) hm
      have hms := hid (show mask / 2 ^ (k + 1) = mask / 2 ^ k / 2 by rw [Nat.pow_succ, Nat.div_div_eq_div_mul])
      generalize mask / 2 ^ k = mk at *
      have E1 := and1 mk hmk
      have hnk : n ≤ k := hrel.out.1.choose_spec.2.2.2.2.2.2
      rcases Nat.mod_two_eq_zero_or_one mk with hm2 | hm2
      · rw [hm2] at E1
        have hsk := hid hrel.out.1.skip
        go_wp2
        go_roundw
        case rel => exact ⟨k + 1, n, b, by omega, by go_num, by rw [hms.out]; rfl, rfl, hsk.out, hrel.out.2⟩
        case measure => simp [intOf]; omega
      · rw [hm2] at E1
        obtain ⟨d, hd⟩ : ∃ d, d = (bit + k) / 8 := ⟨_, rfl⟩
        obtain ⟨r, hr⟩ : ∃ r, r = (bit + k) % 8 := ⟨_, rfl⟩
        have hq : Int.tdiv ((bit : Int) + (k : Int)) 8 = (d : Int) := by
          rw [Int.tdiv_eq_ediv_of_nonneg (by omega)]; omega
        have hrm : Int.tmod ((bit : Int) + (k : Int)) 8 = (r : Int) := by
          rw [Int.tmod_eq_emod_of_nonneg (by omega)]; omega
        have HD := hid hd
        have HRR := hid hr
        have hr8 : r < 8 := by omega
        have hdl : d ≤ 10000000 := by omega
        clear hd hr
        by_cases hat : fr + d < to
        · have hg : ((to : Int) ≤ (fr : Int) + (d : Int)) = False := by simp; omega
          have hbl : b.length = bs.length := hrel.out.1.choose_spec.2.1
          obtain ⟨q1, q2, q3, q4⟩ := owns_set hrel.out.2.1 (fr + d) (by omega)
          have hpow : 2 ^ r < 256 := by
            have : r = 0 ∨ r = 1 ∨ r = 2 ∨ r = 3 ∨ r = 4 ∨ r = 5 ∨ r = 6 ∨ r = 7 := by omega
            rcases this with h | h | h | h | h | h | h | h <;> rw [h] <;> decide
          have E3 := u8_xor_val (b.getD (fr + d) 0).toNat (2 ^ r) (b.getD (fr + d) 0).toNat_lt hpow
          have Q5 := hid (show Turned bs fr to bit (k + 1) (b.set (fr + d) (UInt8.ofNat (b.getD (fr + d) 0).toNat ^^^ UInt8.ofNat (2 ^ r))) (n + 1) ∧ (wr.setCell ⟨g, fr + d, none⟩ (.int .u8 ((UInt8.ofNat (b.getD (fr + d) 0).toNat ^^^ UInt8.ofNat (2 ^ r)).toNat : Int))).ownsRow base 5 1 (.slice (some ⟨g, 0, none⟩) bs.length cap) (b.set (fr + d) (UInt8.ofNat (b.getD (fr + d) 0).toNat ^^^ UInt8.ofNat (2 ^ r))).length (cellsB (b.set (fr + d) (UInt8.ofNat (b.getD (fr + d) 0).toNat ^^^ UInt8.ofNat (2 ^ r)))) ∧ Fr [g] w (wr.setCell ⟨g, fr + d, none⟩ (.int .u8 ((UInt8.ofNat (b.getD (fr + d) 0).toNat ^^^ UInt8.ofNat (2 ^ r)).toNat : Int))) from by
            refine ⟨?_, q4 _, ?_⟩
            · have e : UInt8.ofNat (b.getD (fr + d) 0).toNat = b.getD (fr + d) 0 := by simp
              rw [e, HD.out]
              exact hrel.out.1.turn hto (by rw [← HD.out]; exact hat) _ (by rw [UInt8.toNat_ofNat', Nat.mod_eq_of_lt hpow, HRR.out])
            · have hf := hrel.out.2.2
              exact ⟨hf.os, hf.tape, hf.output, by simpa [World.setCell] using hf.size, fun i hi hF => (Below.heap_setCell _ _ _ _ (by simpa using hF)).trans (hf.block i hi hF)⟩)
          generalize (b.getD (fr + d) 0).toNat = x at *
          clear hrel q3 q4
          generalize hwo : wr = wo at *
          clear hwo
          go_wp2
          go_loopw [15, 16] (fun ov iv wr => ∃ j : Nat, j ≤ r ∧ iv = .int .i64 (j : Int) ∧ ov = .int .u8 ((2 ^ j : Nat) : Int) ∧ wo = wr) (fun _ iv _ => r - (intOf iv).toNat)
          case atStart => exact ⟨0, by omega, rfl, rfl, rfl⟩
          case round =>
            obtain ⟨j, hj, rfl, rfl, rfl⟩ := hrel
            by_cases hjr : j < r
            · have hp2 : 2 ^ j < 128 := by
                have : j = 0 ∨ j = 1 ∨ j = 2 ∨ j = 3 ∨ j = 4 ∨ j = 5 ∨ j = 6 := by omega
                rcases this with h | h | h | h | h | h | h <;> rw [h] <;> decide
              have hps := hid (show 2 ^ (j + 1) = 2 ^ j * 2 from Nat.pow_succ 2 j)
              generalize 2 ^ j = pj at *
              go_wp2
              go_roundw
              case rel => exact ⟨j + 1, by omega, by go_num, by rw [hps.out]; rfl, by trivial⟩
              case measure => simp [intOf]; omega
            · have hjr' : j = r := by omega
              rw [hjr']
              clear hjr' hjr
              generalize 2 ^ r = pr at *
              generalize hX : (UInt8.ofNat x ^^^ UInt8.ofNat pr) = X at *
              clear hX
              go_wp2
              go_roundw
              case rel => exact ⟨k + 1, n + 1, _, by omega, by go_num, by rw [hms.out]; rfl, by go_num, Q5.out⟩
              case measure => simp [intOf]; omega
        · have hg : ((to : Int) ≤ (fr : Int) + (d : Int)) := by omega
          have hsk := hid hrel.out.1.skip
          go_wp2
          go_roundw
          case rel => exact ⟨k + 1, n, b, by omega, by go_num, by rw [hms.out]; rfl, rfl, hsk.out, hrel.out.2⟩
          case measure => simp [intOf]; omega
    · have hk32 : k = 32 := by omega
      subst hk32
      go_wp2
      go_ret
      exact ⟨n, b, rfl, hrel.out⟩
end Go.Proofs.YthnccpbgccmapaaDoor

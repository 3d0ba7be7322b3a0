import Derived.Test.YthnccpbgccmapabDoorCrc
namespace Go.Proofs.YthnccpbgccmapabDoor
open Go.RowKit
set_option linter.unusedVariables false

set_option maxHeartbeats 1600000 in
set_option maxRecDepth 1000000 in
theorem mixed_any {w : World} (hT : Tab w) (r c : Nat) (hr : r < 4294967296) (hc : c < 256) :
    Calls Tryd.prog 35 #[.int .u32 (r : Int), .int .u8 (c : Int)] w fun e w' => e = .returned (.int .u32 (mixN r c : Int)) ∧ w' = w := by
  obtain ⟨x, hx⟩ : ∃ x, x = r ^^^ c := ⟨_, rfl⟩
  have hxl : x < 4294967296 := by rw [hx]; exact Nat.xor_lt_two_pow (n := 32) hr (by omega)
  have E0 : bits .xor .u32 (r : Int) (c : Int) = (x : Int) := by rw [u32_xor_nat r c hr (by omega), hx]
  obtain ⟨i, hi⟩ : ∃ i, i = x % 16 := ⟨_, rfl⟩
  have hil : i < 16 := by omega
  have E1 : bits .and .u32 (x : Int) 15 = (i : Int) := by
    have := u32_and_nat x 15 hxl (by decide)
    rw [Nat.and_two_pow_sub_one_eq_mod x 4] at this
    rw [hi]; exact this
  have c0 := hT.2 i hil
  obtain ⟨y, hy⟩ : ∃ y, y = x / 16 ^^^ tabN.getD i 0 := ⟨_, rfl⟩
  have htl := tab_lt i hil
  have hyl : y < 4294967296 := by rw [hy]; exact Nat.xor_lt_two_pow (n := 32) (by omega) htl
  have E2 : bits .xor .u32 ((x : Int) / 16) ((tabN.getD i 0 : Nat) : Int) = (y : Int) := by
    have := u32_xor_nat (x / 16) (tabN.getD i 0) (by omega) htl
    rw [← hy] at this
    rw [← this]; rfl
  obtain ⟨j, hj⟩ : ∃ j, j = y % 16 := ⟨_, rfl⟩
  have hjl : j < 16 := by omega
  have E3 : bits .and .u32 (y : Int) 15 = (j : Int) := by
    have := u32_and_nat y 15 hyl (by decide)
    rw [Nat.and_two_pow_sub_one_eq_mod y 4] at this
    rw [hj]; exact this
  have c1 := hT.2 j hjl
  have E4 : bits .xor .u32 ((y : Int) / 16) ((tabN.getD j 0 : Nat) : Int) = (mixN r c : Int) := by
    have := u32_xor_nat (y / 16) (tabN.getD j 0) (by omega) (tab_lt j hjl)
    rw [mix_two, ← hx, ← hi, ← hy, ← hj, ← this]; rfl
  generalize mixN r c = z at *
  generalize tabN.getD i 0 = t0 at *
  generalize tabN.getD j 0 = t1 at *
  clear hT hx hi hj hy htl
  go_enter Tryd.func35, Tryd.ntmps35
  go_wp2
  go_ret
  exact ⟨rfl, rfl⟩

set_option maxHeartbeats 1600000 in
set_option maxRecDepth 1000000 in
theorem Sum_any {w : World} {s : Value} {l : List UInt8} (hT : Tab w) (h : Reads w s l) (hlen : l.length ≤ 140737488355328) :
    Calls Tryd.prog 19 #[s] w fun e w' => e = .returned (.int .u32 (sumN l : Int)) ∧ w' = w := by
  obtain ⟨ao, c, hf⟩ := h.form
  subst hf
  have HH := hid h
  have HT := hid hT
  clear h hT
  go_enter Tryd.func19, Tryd.ntmps19
  go_wp2
  go_loopw [3, 8] (fun rv iv wr => ∃ (k : Nat), k ≤ l.length ∧ iv = .int .i64 (k : Int) ∧ rv = .int .u32 (regN 4294967295 (l.take k) : Int) ∧ w = wr) (fun _ iv _ => l.length - (intOf iv).toNat)
  case atStart => exact ⟨0, by omega, rfl, rfl, rfl⟩
  case round =>
    obtain ⟨k, hk, rfl, rfl, rfl⟩ := hrel
    have hrl : regN 4294967295 (l.take k) < 4294967296 := regN_lt _ (by decide)
    by_cases hlt : k < l.length
    · obtain ⟨g, o, rfl, h1⟩ := HH.out.at_u8 k hlt
      have hn := hid (regN_take 4294967295 l k hlt)
      generalize regN 4294967295 (l.take k) = r at *
      have hxl : (l.getD k 0).toNat < 256 := (l.getD k 0).toNat_lt
      generalize (l.getD k 0).toNat = x at *
      go_wp2_with fail
      refine (mixed_any HT.out r x hrl hxl).mono ?_
      rintro e w1 ⟨rfl, rfl⟩
      go_wp2
      go_roundw
      case rel => exact ⟨k + 1, by omega, by go_num, by rw [hn.out], by trivial⟩
      case measure => simp [intOf]; omega
    · have e : l.take k = l := List.take_of_length_le (by omega)
      rw [e] at hrl ⊢
      have E : bits .xor .u32 IntKind.u32.max (regN 4294967295 l : Int) = (sumN l : Int) := by
        have := u32_xor_nat 4294967295 _ (by decide) hrl
        rw [sumN, Nat.xor_comm]; exact this
      generalize regN 4294967295 l = r at *
      go_wp2
      go_ret
      exact ⟨rfl, rfl⟩

theorem and1 (r : Nat) (h : r < 4294967296) : bits .and .u32 (r : Int) 1 = ((r % 2 : Nat) : Int) := by
  have := u32_and_nat r 1 h (by decide)
  rw [Nat.and_one_is_mod] at this
  exact this

set_option maxHeartbeats 1600000 in
set_option maxRecDepth 1000000 in
theorem refSum_any {w : World} {s : Value} {l : List UInt8} (h : Reads w s l) (hlen : l.length ≤ 140737488355328) :
    Calls Tryd.prog 42 #[s] w fun e w' => e = .returned (.int .u32 (sumN l : Int)) ∧ w' = w := by
  obtain ⟨ao, c, hf⟩ := h.form
  subst hf
  have HH := hid h
  clear h
  go_enter Tryd.func42, Tryd.ntmps42
  go_wp2
  go_loopw [3, 4] (fun rv iv wr => ∃ (k : Nat), k ≤ l.length ∧ iv = .int .i64 (k : Int) ∧ rv = .int .u32 (regN 4294967295 (l.take k) : Int) ∧ w = wr) (fun _ iv _ => l.length - (intOf iv).toNat)
  case atStart => exact ⟨0, by omega, rfl, rfl, rfl⟩
  case round =>
    obtain ⟨k, hk, rfl, rfl, rfl⟩ := hrel
    have hrl : regN 4294967295 (l.take k) < 4294967296 := regN_lt _ (by decide)
    by_cases hlt : k < l.length
    · obtain ⟨g, o, rfl, h1⟩ := HH.out.at_u8 k hlt
      have hn := hid (regN_take 4294967295 l k hlt)
      generalize regN 4294967295 (l.take k) = r at *
      have hxl : (l.getD k 0).toNat < 256 := (l.getD k 0).toNat_lt
      generalize (l.getD k 0).toNat = x at *
      obtain ⟨z, hz⟩ : ∃ z, z = r ^^^ x := ⟨_, rfl⟩
      have E0 : bits .xor .u32 (r : Int) (x : Int) = (z : Int) := by rw [u32_xor_nat r x hrl (by omega), hz]
      have hzl : z < 4294967296 := by rw [hz]; exact Nat.xor_lt_two_pow (n := 32) hrl (by omega)
      go_wp2
      go_loopw [3, 5] (fun rv iv wr => ∃ (j : Nat), j ≤ 8 ∧ iv = .int .i64 (j : Int) ∧ rv = .int .u32 (stepN j z : Int) ∧ w = wr) (fun _ iv _ => 8 - (intOf iv).toNat)
      case atStart => exact ⟨0, by omega, rfl, by simp [stepN, hz], rfl⟩
      case round =>
        obtain ⟨j, hj, rfl, rfl, rfl⟩ := hrel
        have hyl : stepN j z < 4294967296 := stepN_lt j hzl
        have hs := hid (stepN_succ j z)
        by_cases hj8 : j < 8
        · generalize stepN j z = y at *
          have E1 := and1 y hyl
          rcases Nat.mod_two_eq_zero_or_one y with hm | hm
          · rw [hm] at E1
            have E2 : stepA y = y / 2 := by unfold stepA; rw [if_neg (by omega)]
            go_wp2
            go_roundw
            case rel => exact ⟨j + 1, by omega, by go_num, by rw [hs.out, E2]; rfl, by trivial⟩
            case measure => simp [intOf]; omega
          · rw [hm] at E1
            have E2 : stepA y = y / 2 ^^^ 2197175160 := by unfold stepA; rw [if_pos (by omega)]
            have E3 : bits .xor .u32 ((y : Int) / 2) 2197175160 = ((y / 2 ^^^ 2197175160 : Nat) : Int) := u32_xor_nat (y / 2) 2197175160 (by omega) (by decide)
            go_wp2
            go_roundw
            case rel => exact ⟨j + 1, by omega, by go_num, by rw [hs.out, E2], by trivial⟩
            case measure => simp [intOf]; omega
        · have hj8' : j = 8 := by omega
          have hfin : (stepN j z : Int) = (regN 4294967295 (l.take (k + 1)) : Int) := by rw [hn.out, hj8', mixN, hz]
          rw [hfin]
          go_wp2
          go_roundw
          case rel => exact ⟨k + 1, by omega, by go_num, rfl, by trivial⟩
          case measure => simp [intOf]; omega
    · have e : l.take k = l := List.take_of_length_le (by omega)
      rw [e] at hrl ⊢
      have E : bits .xor .u32 (regN 4294967295 l : Int) 4294967295 = (sumN l : Int) := u32_xor_nat _ 4294967295 hrl (by decide)
      generalize regN 4294967295 l = r at *
      go_wp2
      go_ret
      exact ⟨rfl, rfl⟩
end Go.Proofs.YthnccpbgccmapabDoor

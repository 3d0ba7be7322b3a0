import Derived.Test.YthoppemjfdnibaaGreatDoorPut
import Derived.Test.YthoppemjfdnibaaGreatDoorPure
namespace Go.Proofs.YthoppemjfdnibaaGreatDoor
open Go.RowKit
set_option linter.unusedVariables false

theorem or_cell (m : Nat) : bits BinOp.or IntKind.u8 ((m : Int) % 256) 128 = ((UInt8.ofNat (m % 128 + 128)).toNat : Int) := by
  rw [u8_or _ _ (by omega) (by omega) (by omega) (by omega), toNat_of128, ← or128]
  congr 2

theorem low_cell (m : Nat) (h : m < 128) : ((m : Int) % 256) = ((UInt8.ofNat m).toNat : Int) := by
  rw [toNat_small m h]; omega

theorem rel_step {f m n : Nat} {pre : List UInt8} (hm : m < 128 ^ (f + 1)) (hlt : 128 ≤ m) (hpf : pre.length + f = 9) (he : pre ++ enc f m = enc 9 n) :
    ∃ f', f = f' + 1 ∧ m / 128 < 128 ^ (f' + 1) ∧ (pre ++ [UInt8.ofNat (m % 128 + 128)]).length + f' = 9 ∧ (pre ++ [UInt8.ofNat (m % 128 + 128)]) ++ enc f' (m / 128) = enc 9 n := by
  cases f with
  | zero => simp at hm; omega
  | succ f =>
    refine ⟨f, rfl, ?_, ?_, ?_⟩
    · rw [Nat.div_lt_iff_lt_mul (by omega)]; rw [Nat.pow_succ] at hm; exact hm
    · simp; omega
    · rw [← he, enc_step f m (by omega)]; simp

set_option maxHeartbeats 1600000 in
set_option maxRecDepth 1000000 in
theorem groups_any {w : World} {b : Nat} {v : Value} {st : Option (List UInt8)} (h : Wst w b v st) (n : Nat) (hn : n < 18446744073709551616) (hlen : lenS st + 10 ≤ 140737488355328) :
    Calls Tryz.prog 113 #[.pointer (some ⟨b, 0, none⟩), .int .u64 (n : Int)] w fun e w' => e = .returned (.tuple #[]) ∧ ∃ v', Wst w' b v' (addS st (enc 9 n)) ∧ WStep b w v w' v' := by
  have HH : Hid (Wst w b v st) := h; clear h
  go_enter Tryz.func113, Tryz.ntmps113
  go_wp2
  go_loopw [1] (fun nv wr => ∃ (f m : Nat) (pre : List UInt8) (v' : Value), nv = .int .u64 (m : Int) ∧ m < 128 ^ (f + 1) ∧ m < 18446744073709551616 ∧ pre.length + f = 9 ∧ Hid (pre ++ enc f m = enc 9 n) ∧ Hid (Wst wr b v' (addS st pre)) ∧ WStep b w v wr v') (fun nv _ => (intOf nv).toNat)
  case atStart => exact ⟨9, n, [], v, rfl, by omega, hn, rfl, by simp [Hid], by simpa [addS_nil] using HH, WStep.refl _ _ _⟩
  case round =>
    obtain ⟨f, m, pre, v', rfl, hm, hm64, hpf, he, hst, hstep⟩ := hrel
    have hl := lenS_addS st pre
    by_cases hlt : 128 ≤ m
    · obtain ⟨f', hf, hm', hpf', he'⟩ := rel_step hm hlt hpf he.out
      have He' : Hid _ := he'
      have Hm' : Hid _ := hm'
      have Hp' : Hid _ := hpf'
      clear he' hm' hf hpf' he hm
      go_wp2_with fail
      refine (put_any (hst.out.alloc _) (Reads.one wr (UInt8.ofNat (m % 128 + 128)) _ (or_cell m)) (by simp; omega)).mono ?_
      rintro e w1 ⟨rfl, v1, h1, h2⟩
      have H1 : Hid _ := h1
      have H2 : Hid _ := h2
      clear h1 h2
      go_wp2
      go_roundw
      case rel => exact ⟨f', m / 128, _, v1, by go_num, Hm'.out, by omega, Hp'.out, He'.out, by rw [← addS_addS]; exact H1.out, hstep.trans ((WStep.alloc _).trans H2.out)⟩
      case measure => simp [intOf]; omega
    · go_wp2_with fail
      have h128 : m < 128 := by omega
      refine (put_any (hst.out.alloc _) (Reads.one wr (UInt8.ofNat m) _ (by rw [toNat_small m h128])) (by simp; omega)).mono ?_
      rintro e w1 ⟨rfl, v1, h1, h2⟩
      have H1 : Hid _ := h1
      have H2 : Hid _ := h2
      clear h1 h2
      go_wp2
      go_end0
      refine ⟨rfl, v1, ?_, hstep.trans ((WStep.alloc _).trans H2.out)⟩
      rw [← he.out, enc_small f m h128, ← addS_addS]
      exact H1.out

set_option maxHeartbeats 800000 in
set_option maxRecDepth 1000000 in
theorem fail_any {w : World} {b : Nat} {v : Value} {st : Option (List UInt8)} (h : Wst w b v st) :
    Calls Tryz.prog 112 #[.pointer (some ⟨b, 0, none⟩)] w fun e w' => e = .returned (.tuple #[]) ∧ ∃ v', Wst w' b v' none ∧ WStep b w v w' v' := by
  obtain ⟨t, hbox⟩ : ∃ t, w.heap[b]? = some (.cells #[v, t] 99 (0, 0)) := by
    cases st with
    | none => exact ⟨_, h.2⟩
    | some bs => exact ⟨_, h.box⟩
  have c0 : w.cell? ⟨b, 0, none⟩ = some v := by rw [cell_at hbox]; rfl
  have c1 : w.cell? ⟨b, 1, none⟩ = some t := by rw [cell_at hbox]; rfl
  have f0 := free_at hbox 0
  have f1 := free_at hbox 1
  have R : Hid (Wst ((w.setCell ⟨b, 0, none⟩ (.slice none 0 0)).setCell ⟨b, 1, none⟩ (.bool true)) b (.slice none 0 0) none ∧ WStep b w v ((w.setCell ⟨b, 0, none⟩ (.slice none 0 0)).setCell ⟨b, 1, none⟩ (.bool true)) (.slice none 0 0)) := by
    refine ⟨⟨rfl, ?_⟩, ⟨rfl, rfl, rfl, by simp [World.setCell], ?_, fun k hk => by simp [Value.ownBlock] at hk⟩⟩
    · rw [heap_setCell_same (heap_setCell_same hbox _)]; rfl
    · intro k hk hkb hkv
      rw [Below.heap_setCell _ _ _ _ (by simpa using hkb), Below.heap_setCell _ _ _ _ (by simpa using hkb)]
  clear h hbox
  go_enter Tryz.func112, Tryz.ntmps112
  go_wp2
  go_end0
  exact ⟨rfl, _, R.out⟩

/-- What Num writes. -/
def numS (st : Option (List UInt8)) (n : Int) : Option (List UInt8) := if n < 0 then none else addS st (enc 9 n.toNat)

set_option maxHeartbeats 800000 in
set_option maxRecDepth 1000000 in
theorem num_any {w : World} {b : Nat} {v : Value} {st : Option (List UInt8)} (h : Wst w b v st) (n : Int) (hn : n < 9223372036854775808) (hlen : lenS st + 10 ≤ 140737488355328) :
    Calls Tryz.prog 82 #[.pointer (some ⟨b, 0, none⟩), .int .i64 n] w fun e w' => e = .returned (.tuple #[]) ∧ ∃ v', Wst w' b v' (numS st n) ∧ WStep b w v w' v' := by
  have HH : Hid (Wst w b v st) := h; clear h
  by_cases h0 : n < 0
  · go_enter Tryz.func82, Tryz.ntmps82
    go_wp2_with fail
    refine (fail_any HH.out).mono ?_
    rintro e w1 ⟨rfl, v1, h1, h2⟩
    have H1 : Hid _ := h1
    have H2 : Hid _ := h2
    clear h1 h2
    go_wp2
    refine bodyPost_ret (results_none rfl _ _ _) rfl ?_
    refine ⟨rfl, v1, ?_, H2.out⟩
    unfold numS
    rw [if_pos h0]
    exact H1.out
  · obtain ⟨m, rfl⟩ := Int.eq_ofNat_of_zero_le (Int.not_lt.1 h0)
    go_enter Tryz.func82, Tryz.ntmps82
    go_wp2_with fail
    refine (groups_any HH.out m (by omega) hlen).mono ?_
    rintro e w1 ⟨rfl, v1, h1, h2⟩
    have H1 : Hid _ := h1
    have H2 : Hid _ := h2
    clear h1 h2
    go_wp2
    go_end0
    refine ⟨rfl, v1, ?_, H2.out⟩
    unfold numS
    rw [if_neg (by omega)]
    exact H1.out

theorem fold_neg (n : Int) (h0 : n < 0) (h1 : -9223372036854775808 ≤ n) : bits BinOp.xor IntKind.u64 IntKind.u64.max (IntKind.u64.wrap (IntKind.u64.wrap n * 2)) = (foldN n : Int) := by
  have e0 : IntKind.u64.max = 18446744073709551615 := by decide
  rw [e0, IntKind.wrap_u64, IntKind.wrap_u64, u64_xor _ _ (by omega) (by omega) (by omega) (by omega)]
  have e1 : (18446744073709551615 : Int).toNat = 2 ^ 64 - 1 := by decide
  have e2 : (n % 18446744073709551616 * 2 % 18446744073709551616).toNat < 2 ^ 64 := by omega
  rw [e1, xor_ones _ e2]
  unfold foldN
  rw [if_pos h0]
  omega

theorem foldN_pos (n : Int) (h0 : 0 ≤ n) : n * 2 = (foldN n : Int) := by
  unfold foldN; rw [if_neg (by omega)]; omega

theorem foldN_lt (n : Int) (h1 : -9223372036854775808 ≤ n) (h2 : n < 9223372036854775808) : foldN n < 18446744073709551616 := by
  unfold foldN; split <;> omega

theorem ret_int {k : IntKind} {a b : Int} (h : a = b) : Ending.returned (.int k a) = .returned (.int k b) := by rw [h]

theorem WStep.apart {b : Nat} {w w' : World} {v v' s : Value} {l : List UInt8} (h : WStep b w v w' v') (hr : Reads w s l) (hs : ∀ k, s.ownBlock = some k → k ≠ b ∧ v.ownBlock ≠ some k) : ∀ k, s.ownBlock = some k → k ≠ b ∧ v'.ownBlock ≠ some k := by
  intro k hk
  refine ⟨(hs k hk).1, fun e => ?_⟩
  rcases h.own k e with e | e
  · exact (hs k hk).2 e
  · have := hr.block k hk; omega

set_option maxHeartbeats 800000 in
set_option maxRecDepth 1000000 in
theorem bytes_any {w : World} {b : Nat} {v : Value} {st : Option (List UInt8)} (h : Wst w b v st) {s : Value} {l : List UInt8} (hr : Reads w s l) (hs : ∀ k, s.ownBlock = some k → k ≠ b ∧ v.ownBlock ≠ some k) (hlen : lenS st + l.length + 10 ≤ 140737488355328) :
    Calls Tryz.prog 154 #[.pointer (some ⟨b, 0, none⟩), s] w fun e w' => e = .returned (.tuple #[]) ∧ ∃ v', Wst w' b v' (addS st (enc 9 l.length ++ l)) ∧ WStep b w v w' v' := by
  have HH : Hid (Wst w b v st) := h; clear h
  have HR : Hid (Reads w s l) := hr
  have HS : Hid (∀ k, s.ownBlock = some k → k ≠ b ∧ v.ownBlock ≠ some k) := hs
  obtain ⟨ao, c, rfl, _, _⟩ := hr
  clear hs
  go_enter Tryz.func154, Tryz.ntmps154
  go_wp2_with fail
  refine (num_any HH.out (l.length : Int) (by omega) (by omega)).mono ?_
  rintro e w1 ⟨rfl, v1, h3, h4⟩
  have HR1 : Hid _ := HR.out.step h4 HS.out
  have e1 : numS st (l.length : Int) = addS st (enc 9 l.length) := by unfold numS; rw [if_neg (by omega)]; simp
  rw [e1] at h3
  have H1 : Hid _ := h3
  have H2 : Hid _ := h4
  clear h3 h4 e1
  go_wp2_with fail
  refine (put_any H1.out HR1.out (by have := lenS_addS st (enc 9 l.length); have := enc_len 9 l.length; omega)).mono ?_
  rintro e w2 ⟨rfl, v2, h3, h4⟩
  rw [addS_addS] at h3
  have H3 : Hid _ := h3
  have H4 : Hid _ := h4
  clear h3 h4
  go_wp2
  go_end0
  exact ⟨rfl, v2, H3.out, H2.out.trans H4.out⟩

end Go.Proofs.YthoppemjfdnibaaGreatDoor

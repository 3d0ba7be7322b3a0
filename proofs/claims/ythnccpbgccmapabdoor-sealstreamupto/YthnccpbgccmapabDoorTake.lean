import Derived.Test.YthnccpbgccmapabDoorLook
namespace Go.Proofs.YthnccpbgccmapabDoor
open Go.RowKit
set_option linter.unusedVariables false
attribute [local go_sem ↓] Go.wp_at_zero Go.wp_at_succ

theorem flip_reg (r : Nat) (h : r < 4294967296) : bits .xor .u32 IntKind.u32.max (r : Int) = ((r ^^^ 4294967295 : Nat) : Int) := by
  have := u32_xor_nat 4294967295 r (by decide) h
  rw [Nat.xor_comm]
  exact this

section
variable {w : World} {P : Nat} {hv fv : Value} {s : Lk} {L : Nat}

/-- What taking a byte leaves. -/
def TakeR (w : World) (P : Nat) (hv fv : Value) (L : Nat) (r : Lk × Bool) (e : Ending) (w' : World) : Prop := e = .returned (.bool r.2) ∧ StB w' P hv r.1 fv L ∧ Fr [P] w w'

set_option maxHeartbeats 3200000 in
set_option maxRecDepth 1000000 in
theorem take_lead (hT : Tab w) (h : StB w P hv s fv L) (hs : s.Ok) (hP : 0 < P) (c : UInt8) (h5 : s.taken < 5) :
    Calls Tryd.prog 26 #[.pointer (some ⟨P, 1, none⟩), .int .u8 (c.toNat : Int)] w (TakeR w P hv fv L (takeP s c)) := by
  have c1 := h.c1
  have c2 := h.c2
  have c3 := h.c3
  have f1 := h.free 1
  have f3 := h.free 3
  have hr := hs.reg
  have hx := c.toNat_lt
  have hz := hs.size
  have h1 := h.set1 (s.taken + 1)
  have hf1 := (Fr.refl [P] w).set P 1 (.int .i64 ((s.taken + 1 : Nat) : Int)) (by simp)
  have hT1 := hT.fr hf1 (by simp; omega)
  have h3 := h1.set3 (mixN s.reg c.toNat)
  have hf3 := hf1.set P 3 (.int .u32 (mixN s.reg c.toNat : Int)) (by simp)
  have e1 : ((s.taken + 1 : Nat) : Int) = (s.taken : Int) + 1 := by omega
  rw [e1] at h1 hf1 hT1 h3 hf3
  have H3 := hid h3
  have F3 := hid hf3
  have T1 := hid hT1
  have OK := hid hs
  have b5 : (s.taken : Int) < 5 := by omega
  clear h h1 h3 hf1 hf3 hT hT1 hs e1
  go_enter Tryd.func26, Tryd.ntmps26
  go_wp2_with fail
  refine (mixed_any T1.out s.reg c.toNat hr hx).mono ?_
  rintro e w1 ⟨rfl, hw1⟩
  rw [hw1]
  clear hw1
  by_cases h2 : s.taken < 2
  · go_wp2_with fail
    refine (takeLead_mark H3.out c s.taken h2).mono ?_
    rintro e w2 ⟨rfl, hw2⟩
    rw [hw2]
    have et := hid (show takeP s c = (⟨s.taken + 1, s.size, mixN s.reg c.toNat⟩, c == ([70, 76] : List UInt8).getD s.taken 0) by unfold takeP; rw [if_pos h2])
    clear hw2
    generalize (c == ([70, 76] : List UInt8).getD s.taken 0) = bb at *
    go_wp2
    go_ret
    exact ⟨by rw [et.out]; rfl, by rw [et.out]; exact H3.out, F3.out⟩
  · obtain ⟨j, hj⟩ : ∃ j, s.taken = j + 2 := ⟨s.taken - 2, by omega⟩
    have hsz : s.size < 256 ^ j := by
      rcases OK.out.low (by omega) with hl | hl
      · rw [hj] at hl; simpa using hl
      · omega
    have et := hid (show takeP s c = (⟨s.taken + 1, s.size + c.toNat * 256 ^ j, mixN s.reg c.toNat⟩, decide (s.size + c.toNat * 256 ^ j ≤ 65536)) by
      unfold takeP
      rw [if_neg h2, if_pos h5, show s.taken - 2 = j by omega])
    have C38 := hid (takeLead_size H3.out c j (by omega) hsz)
    rw [← hj] at C38
    clear hj hsz
    go_wp2_with fail
    refine C38.out.mono ?_
    rintro e w2 ⟨rfl, hs2, hf2⟩
    have R := hid (show StB w2 P hv ⟨s.taken + 1, s.size + c.toNat * 256 ^ j, mixN s.reg c.toNat⟩ fv L ∧ Fr [P] w w2 from ⟨hs2, ⟨hf2.os.trans F3.out.os, hf2.tape.trans F3.out.tape, hf2.output.trans F3.out.output, Nat.le_trans F3.out.size hf2.size, fun k hk hF => (hf2.block k (Nat.lt_of_lt_of_le hk F3.out.size) hF).trans (F3.out.block k hk hF)⟩⟩)
    clear hs2 hf2 C38
    simp only [] at et ⊢
    generalize hB : decide (s.size + c.toNat * 256 ^ j ≤ 65536) = bb at *
    clear hB
    go_wp2
    go_ret
    exact ⟨by rw [et.out]; rfl, by rw [et.out]; exact R.out.1, R.out.2⟩

set_option maxHeartbeats 3200000 in
set_option maxRecDepth 1000000 in
theorem take_headSum (hT : Tab w) (h : StB w P hv s fv L) (hs : s.Ok) (hP : 0 < P) (c : UInt8) (h5 : 5 ≤ s.taken) (h9 : s.taken < 9) :
    Calls Tryd.prog 26 #[.pointer (some ⟨P, 1, none⟩), .int .u8 (c.toNat : Int)] w (TakeR w P hv fv L (takeP s c)) := by
  have c1 := h.c1
  have c2 := h.c2
  have c3 := h.c3
  have f1 := h.free 1
  have f3 := h.free 3
  have hr := hs.reg
  have hz := hs.size
  have h1 := h.set1 (s.taken + 1)
  have hf1 := (Fr.refl [P] w).set P 1 (.int .i64 ((s.taken + 1 : Nat) : Int)) (by simp)
  have h3 := h1.set3 4294967295
  have hf3 := hf1.set P 3 (.int .u32 4294967295) (by simp)
  have e1 : ((s.taken + 1 : Nat) : Int) = (s.taken : Int) + 1 := by omega
  rw [e1] at h1 hf1 h3 hf3
  have H1 := hid h1
  have F1 := hid hf1
  have H3 := hid h3
  have F3 := hid hf3
  have E := flip_reg s.reg hr
  have hsl : s.reg ^^^ 4294967295 < 4294967296 := Nat.xor_lt_two_pow (n := 32) hr (by decide)
  obtain ⟨j, hj⟩ : ∃ j, s.taken = j + 5 := ⟨s.taken - 5, by omega⟩
  have hj4 : j < 4 := by omega
  have hsub : (s.taken : Int) - 5 = (j : Int) := by omega
  have b5 : ¬ ((s.taken : Int) < 5) := by omega
  have b9 : (s.taken : Int) < 9 := by omega
  have et := hid (show takeP s c = (⟨s.taken + 1, s.size, if s.taken + 1 = 9 then 4294967295 else s.reg⟩, c == byteN (s.reg ^^^ 4294967295) j) by
    unfold takeP
    rw [if_neg (by omega), if_neg (by omega), if_pos h9, show s.taken - 5 = j by omega])
  have HJ := hid hj
  clear h h1 h3 hf1 hf3 hT hs e1 hj
  generalize s.reg ^^^ 4294967295 = sm at *
  go_enter Tryd.func26, Tryd.ntmps26
  go_wp2_with fail
  refine (byteOf_any sm j hsl hj4).mono ?_
  rintro e w1 ⟨rfl, hw1⟩
  rw [hw1]
  clear hw1
  have ub := u8_beq c (byteN sm j)
  generalize (c == byteN sm j) = bb at *
  generalize (byteN sm j).toNat = y at *
  by_cases h8 : s.taken + 1 = 9
  · have h8' : ((s.taken : Int) + 1 == 9) = true := by simp; omega
    rw [if_pos h8] at et
    clear h8
    go_wp2
    go_ret
    exact ⟨by rw [et.out, ← ub]; rfl, by rw [et.out]; exact H3.out, F3.out⟩
  · have h8' : ((s.taken : Int) + 1 == 9) = false := by simp; omega
    rw [if_neg h8] at et
    clear h8
    go_wp2
    go_ret
    exact ⟨by rw [et.out, ← ub]; rfl, by rw [et.out]; exact H1.out, F1.out⟩

set_option maxHeartbeats 3200000 in
set_option maxRecDepth 1000000 in
theorem take_body (hT : Tab w) (h : StB w P hv s fv L) (hs : s.Ok) (hP : 0 < P) (c : UInt8) (h9 : 9 ≤ s.taken) (he : s.taken < 9 + s.size) :
    Calls Tryd.prog 26 #[.pointer (some ⟨P, 1, none⟩), .int .u8 (c.toNat : Int)] w (TakeR w P hv fv L (takeP s c)) := by
  have c1 := h.c1
  have c2 := h.c2
  have c3 := h.c3
  have f1 := h.free 1
  have f3 := h.free 3
  have hr := hs.reg
  have hx := c.toNat_lt
  have hz := hs.size
  have h1 := h.set1 (s.taken + 1)
  have hf1 := (Fr.refl [P] w).set P 1 (.int .i64 ((s.taken + 1 : Nat) : Int)) (by simp)
  have hT1 := hT.fr hf1 (by simp; omega)
  have h3 := h1.set3 (mixN s.reg c.toNat)
  have hf3 := hf1.set P 3 (.int .u32 (mixN s.reg c.toNat : Int)) (by simp)
  have e1 : ((s.taken + 1 : Nat) : Int) = (s.taken : Int) + 1 := by omega
  rw [e1] at h1 hf1 hT1 h3 hf3
  have H3 := hid h3
  have F3 := hid hf3
  have T1 := hid hT1
  have b5 : ¬ ((s.taken : Int) < 5) := by omega
  have b9 : ¬ ((s.taken : Int) < 9) := by omega
  have be : (s.taken : Int) < 9 + (s.size : Int) := by omega
  have et := hid (show takeP s c = (⟨s.taken + 1, s.size, mixN s.reg c.toNat⟩, true) by
    unfold takeP
    rw [if_neg (by omega), if_neg (by omega), if_neg (by omega), if_pos he])
  clear h h1 h3 hf1 hf3 hT hT1 hs e1
  go_enter Tryd.func26, Tryd.ntmps26
  go_wp2_with fail
  refine (mixed_any T1.out s.reg c.toNat hr hx).mono ?_
  rintro e w1 ⟨rfl, hw1⟩
  rw [hw1]
  clear hw1
  go_wp2
  go_ret
  exact ⟨by rw [et.out]; rfl, by rw [et.out]; exact H3.out, F3.out⟩

set_option maxHeartbeats 3200000 in
set_option maxRecDepth 1000000 in
theorem take_tail (hT : Tab w) (h : StB w P hv s fv L) (hs : s.Ok) (hP : 0 < P) (c : UInt8) (h9 : 9 ≤ s.taken) (he : ¬ s.taken < 9 + s.size) :
    Calls Tryd.prog 26 #[.pointer (some ⟨P, 1, none⟩), .int .u8 (c.toNat : Int)] w (TakeR w P hv fv L (takeP s c)) := by
  have c1 := h.c1
  have c2 := h.c2
  have c3 := h.c3
  have f1 := h.free 1
  have hr := hs.reg
  have hz := hs.size
  have hmo := hs.more
  have h1 := h.set1 (s.taken + 1)
  have hf1 := (Fr.refl [P] w).set P 1 (.int .i64 ((s.taken + 1 : Nat) : Int)) (by simp)
  have e1 : ((s.taken + 1 : Nat) : Int) = (s.taken : Int) + 1 := by omega
  rw [e1] at h1 hf1
  have H1 := hid h1
  have F1 := hid hf1
  have E := flip_reg s.reg hr
  have hsl : s.reg ^^^ 4294967295 < 4294967296 := Nat.xor_lt_two_pow (n := 32) hr (by decide)
  obtain ⟨j, hj⟩ : ∃ j, s.taken = j + (9 + s.size) := ⟨s.taken - (9 + s.size), by omega⟩
  have hj4 : j < 4 := by omega
  have hsub : (s.taken : Int) - (9 + (s.size : Int)) = (j : Int) := by omega
  have b5 : ¬ ((s.taken : Int) < 5) := by omega
  have b9 : ¬ ((s.taken : Int) < 9) := by omega
  have be : ¬ ((s.taken : Int) < 9 + (s.size : Int)) := by omega
  have et := hid (show takeP s c = (⟨s.taken + 1, s.size, s.reg⟩, c == byteN (s.reg ^^^ 4294967295) j) by
    unfold takeP
    rw [if_neg (by omega), if_neg (by omega), if_neg (by omega), if_neg he, show s.taken - (9 + s.size) = j by omega])
  clear h h1 hf1 hT hs e1 hj
  generalize s.reg ^^^ 4294967295 = sm at *
  go_enter Tryd.func26, Tryd.ntmps26
  go_wp2_with fail
  refine (byteOf_any sm j hsl hj4).mono ?_
  rintro e w1 ⟨rfl, hw1⟩
  rw [hw1]
  clear hw1
  have ub := u8_beq c (byteN sm j)
  generalize (c == byteN sm j) = bb at *
  generalize (byteN sm j).toNat = y at *
  go_wp2
  go_ret
  exact ⟨by rw [et.out, ← ub]; rfl, by rw [et.out]; exact H1.out, F1.out⟩

theorem take_any (hT : Tab w) (h : StB w P hv s fv L) (hs : s.Ok) (hP : 0 < P) (c : UInt8) :
    Calls Tryd.prog 26 #[.pointer (some ⟨P, 1, none⟩), .int .u8 (c.toNat : Int)] w (TakeR w P hv fv L (takeP s c)) := by
  by_cases h5 : s.taken < 5
  · exact take_lead hT h hs hP c h5
  · by_cases h9 : s.taken < 9
    · exact take_headSum hT h hs hP c (by omega) h9
    · by_cases he : s.taken < 9 + s.size
      · exact take_body hT h hs hP c (by omega) he
      · exact take_tail hT h hs hP c (by omega) he

set_option maxHeartbeats 1600000 in
set_option maxRecDepth 1000000 in
theorem isWhole_any (h : StB w P hv s fv L) (h1 : s.taken ≤ 1000000) (h2 : s.size ≤ 100000000) :
    Calls Tryd.prog 27 #[.pointer (some ⟨P, 1, none⟩)] w fun e w' => e = .returned (.bool (decide (wholeP s))) ∧ ∃ q, w' = w.drewN q := by
  have c1 := h.c1
  have c2 := h.c2
  clear h
  by_cases hw : wholeP s
  · have hb : ((s.taken : Int) == 13 + (s.size : Int)) = true := by unfold wholeP at hw; simp; omega
    have hd := hid (decide_eq_true hw)
    have hw1 : IntKind.i64.wrap (13 + (s.size : Int)) = 13 + (s.size : Int) := by simp [IntKind.wrap, IntKind.bits, IntKind.signed]; omega
    clear hw
    go_enter Tryd.func27, Tryd.ntmps27
    go_wp2_with fail
    go_quiet (fail)
    go_wp2
    go_ret
    exact ⟨by rw [hd.out]; rfl, _, rfl⟩
  · have hb : ((s.taken : Int) == 13 + (s.size : Int)) = false := by unfold wholeP at hw; simp; omega
    have hd := hid (decide_eq_false hw)
    have hw1 : IntKind.i64.wrap (13 + (s.size : Int)) = 13 + (s.size : Int) := by simp [IntKind.wrap, IntKind.bits, IntKind.signed]; omega
    clear hw
    go_enter Tryd.func27, Tryd.ntmps27
    go_wp2_with fail
    go_quiet (fail)
    go_wp2
    go_ret
    exact ⟨by rw [hd.out]; rfl, _, rfl⟩
end
end Go.Proofs.YthnccpbgccmapabDoor

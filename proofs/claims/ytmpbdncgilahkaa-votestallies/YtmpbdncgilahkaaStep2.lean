import Derived.Test.YtmpbdncgilahkaaStep
namespace Go.Proofs.Ytmpbdncgilahkaa
open Go.RowKit
set_option linter.unusedVariables false

section
variable {w : World} {t : Tg} {o who v : Int}

set_option maxRecDepth 1000000 in
theorem step_get_bad (h : Th w t) (hw : who < 0 ∨ (t.f.n : Int) ≤ who) : Calls Try.prog 25 #[thV t, stV 2 o who v] w fun e w' => e = .returned (.bool true) ∧ Kept w t w' := by
  have hS := SB.start (w := w) (t := t) (k := 2) (o := o) (who := who) (v := v)
  have hP := h.later (((Below.refl _ w).alloc (Nat.le_refl _) (.cells #[.pointer (some ⟨t.a, 0, none⟩), .pointer (some ⟨t.b, 0, none⟩), .pointer (some ⟨t.f.r, 0, none⟩)] 42)).alloc (by simp) (.cells #[.int .i64 2, .int .i64 o, .int .i64 who, .int .i64 v] 47))
  have HS := hid hS
  have HP := hid hP
  have HW := hid hw
  clear h hS hP hw
  go_enter Try.func25, Try.ntmps25
  go_wp2_with fail
  refine (GetI_bad HP.out.ta HP.out.one HP.out.seven HW.out).mono ?_
  rintro e w1 ⟨rfl, rfl⟩
  go_wp2_with fail
  refine (GetS_bad HP.out.tb HP.out.one HP.out.seven HW.out).mono ?_
  rintro e w1 ⟨rfl, rfl⟩
  go_wp2_with fail
  refine (RGet_bad HP.out.rf HW.out).mono ?_
  rintro e w1 ⟨rfl, rfl⟩
  go_wp2
  go_ret
  exact ⟨rfl, kept_same HP.out HS.out.fr⟩

set_option maxRecDepth 1000000 in
theorem step_get_ok {k : Nat} (h : Th w t) (hk : k < t.f.n) : Calls Try.prog 25 #[thV t, stV 2 o k v] w fun e w' => e = .returned (.bool true) ∧ Kept w t w' := by
  have hS := SB.start (w := w) (t := t) (k := 2) (o := o) (who := k) (v := v)
  have hP := h.later (((Below.refl _ w).alloc (Nat.le_refl _) (.cells #[.pointer (some ⟨t.a, 0, none⟩), .pointer (some ⟨t.b, 0, none⟩), .pointer (some ⟨t.f.r, 0, none⟩)] 42)).alloc (by simp) (.cells #[.int .i64 2, .int .i64 o, .int .i64 k, .int .i64 v] 47))
  have hl := h.pt.lt
  have hls := h.ls
  obtain ⟨y, hy⟩ : ∃ y, t.f.said[k]? = some y := ⟨_, List.getElem?_eq_getElem (by rw [h.rf.lsaid]; exact hk)⟩
  obtain ⟨b, hb⟩ : ∃ b, t.f.spoke[k]? = some b := ⟨_, List.getElem?_eq_getElem (by rw [h.rf.lspoke]; exact hk)⟩
  have ho := wsOf_get hy hb
  have hot := wsT_get hy hb
  have hks : k < t.f.said.length := by rw [h.rf.lsaid]; exact hk
  have HB := hid hb
  have HY := hid hy
  have HK := hid hk
  have HL := hid hl
  have HLS := hid hls
  have HKS := hid hks
  have HS := hid hS
  have HP := hid hP
  clear h hS hP hy hb hk hl hls hks
  have G1 := GetI_ok HP.out.ta HP.out.one HP.out.seven (by have := HK.out; omega) ho
  have G1 := hid G1
  clear ho
  have HOT := hid hot
  clear hot
  cases b with
  | false =>
    go_enter Try.func25, Try.ntmps25
    go_wp2_with fail
    refine G1.out.mono ?_
    rintro e w1 ⟨rfl, q, hw1⟩
    have hP1 : Th w1 t := by rw [hw1]; exact HP.out.drewN q
    have hS1 : SB w t 2 o k v w1 := by rw [hw1]; exact ⟨HS.out.th, HS.out.st, HS.out.fr.drewN q⟩
    have cb := hS1.b
    have cw := hS1.cw
    have HP := hid hP1
    have HS := hid hS1
    clear hw1 hP1 hS1 G1
    simp only [cond_false, Option.map_none, Option.getD_none, Option.isSome_none]
    go_wp2_with fail
    refine (GetS_ok HP.out.tb HP.out.one HP.out.seven (by have := HK.out; omega) HOT.out).mono ?_
    rintro e w2 ⟨rfl, q, hw2⟩
    have hP2 : Th w2 t := by rw [hw2]; exact HP.out.drewN q
    have hS2 : SB w t 2 o k v w2 := by rw [hw2]; exact ⟨HS.out.th, HS.out.st, HS.out.fr.drewN q⟩
    have cr := hS2.r
    have cw := hS2.cw
    have HP := hid hP2
    have HS := hid hS2
    clear hw2 hP2 hS2
    simp only [cond_false, Option.map_none, Option.getD_none, Option.isSome_none]
    go_wp2_with fail
    refine (RGet_ok HP.out.rf HK.out HB.out HY.out).mono ?_
    rintro e w3 ⟨rfl, rfl⟩
    simp only [cond_false]
    go_wp2
    go_ret
    exact ⟨rfl, kept_same HP.out HS.out.fr⟩
  | true =>
    go_enter Try.func25, Try.ntmps25
    go_wp2_with fail
    refine G1.out.mono ?_
    rintro e w1 ⟨rfl, q, hw1⟩
    have hP1 : Th w1 t := by rw [hw1]; exact HP.out.drewN q
    have hS1 : SB w t 2 o k v w1 := by rw [hw1]; exact ⟨HS.out.th, HS.out.st, HS.out.fr.drewN q⟩
    have cb := hS1.b
    have cw := hS1.cw
    have HP := hid hP1
    have HS := hid hS1
    clear hw1 hP1 hS1 G1
    simp only [cond_true, Option.map_some, Option.getD_some, Option.isSome_some]
    go_wp2_with fail
    refine (GetS_ok HP.out.tb HP.out.one HP.out.seven (by have := HK.out; omega) HOT.out).mono ?_
    rintro e w2 ⟨rfl, q, hw2⟩
    have hP2 : Th w2 t := by rw [hw2]; exact HP.out.drewN q
    have hS2 : SB w t 2 o k v w2 := by rw [hw2]; exact ⟨HS.out.th, HS.out.st, HS.out.fr.drewN q⟩
    have cr := hS2.r
    have cw := hS2.cw
    have HP := hid hP2
    have HS := hid hS2
    clear hw2 hP2 hS2
    simp only [cond_true, Option.map_some, Option.getD_some, Option.isSome_some]
    go_wp2_with fail
    refine (RGet_ok HP.out.rf HK.out HB.out HY.out).mono ?_
    rintro e w3 ⟨rfl, rfl⟩
    simp only [cond_true]
    go_wp2_with fail
    refine (text_any y).mono ?_
    rintro e w4 ⟨rfl, hB4⟩
    have HP4 := hid (HP.out.later hB4)
    have HS4 := hid (HS.out.later hB4)
    clear hB4
    go_wp2
    go_ret
    exact ⟨rfl, kept_same HP4.out HS4.out.fr⟩

set_option maxRecDepth 1000000 in
theorem step_count (h : Th w t) : Calls Try.prog 25 #[thV t, stV 4 o who v] w fun e w' => e = .returned (.bool true) ∧ Kept w t w' := by
  have hS := SB.start (w := w) (t := t) (k := 4) (o := o) (who := who) (v := v)
  have hP := h.later (((Below.refl _ w).alloc (Nat.le_refl _) (.cells #[.pointer (some ⟨t.a, 0, none⟩), .pointer (some ⟨t.b, 0, none⟩), .pointer (some ⟨t.f.r, 0, none⟩)] 42)).alloc (by simp) (.cells #[.int .i64 4, .int .i64 o, .int .i64 who, .int .i64 v] 47))
  have e1 := wsOf_len h.ls
  have e2 := wsT_len h.ls
  have HS := hid hS
  have HP := hid hP
  clear h hS hP
  go_enter Try.func25, Try.ntmps25
  go_wp2_with fail
  refine (RCount HP.out.rf).mono ?_
  rintro e w1 ⟨rfl, rfl⟩
  go_wp2_with fail
  refine (CountI HP.out.ta).mono ?_
  rintro e w2 ⟨rfl, hB2⟩
  rw [e1]
  have hS2 := HS.out.later hB2
  have hP2 := HP.out.later hB2
  have cb := hS2.b
  have HS := hid hS2
  have HP := hid hP2
  clear hB2 hS2 hP2
  go_wp2_with fail
  refine (CountS HP.out.tb).mono ?_
  rintro e w3 ⟨rfl, hB3⟩
  rw [e2]
  have hS3 := HS.out.later hB3
  have hP3 := HP.out.later hB3
  have HS := hid hS3
  have HP := hid hP3
  clear hB3 hS3 hP3 cb e1 e2
  go_wp2
  go_ret
  exact ⟨rfl, kept_same HP.out HS.out.fr⟩

set_option maxRecDepth 1000000 in
theorem step_clear (h : Th w t) : Calls Try.prog 25 #[thV t, stV 6 o who v] w fun e w' => e = .returned (.bool true) ∧ Kept w t w' := by
  have hS := SB.start (w := w) (t := t) (k := 6) (o := o) (who := who) (v := v)
  have hP := h.later (((Below.refl _ w).alloc (Nat.le_refl _) (.cells #[.pointer (some ⟨t.a, 0, none⟩), .pointer (some ⟨t.b, 0, none⟩), .pointer (some ⟨t.f.r, 0, none⟩)] 42)).alloc (by simp) (.cells #[.int .i64 6, .int .i64 o, .int .i64 who, .int .i64 v] 47))
  have hl := h.pt.lt
  have h7 := h.rf.seven
  have hsd := h.rf.lsaid
  have HL := hid hl
  have H7 := hid h7
  have HD := hid hsd
  have HS := hid hS
  have HP := hid hP.pt
  clear h hS hP hl h7 hsd
  go_enter Try.func25, Try.ntmps25
  go_wp2_with fail
  refine (PClearI HP.out).mono ?_
  rintro e w1 ⟨rfl, hP1, hf1⟩
  have S1 := HS.out.turn HL.out hf1
  have cb := S1.b
  have HP := hid hP1
  have HS := hid S1
  clear hP1 hf1 S1
  go_wp2_with fail
  refine (PClearS HP.out).mono ?_
  rintro e w2 ⟨rfl, hP2, hf2⟩
  have S2 := HS.out.turn HL.out hf2
  have cr := S2.r
  have HP := hid hP2
  have HS := hid S2
  clear hP2 hf2 S2
  go_wp2_with fail
  refine (PClearR HP.out).mono ?_
  rintro e w3 ⟨rfl, hP3, hf3⟩
  have S3 := HS.out.turn HL.out hf3
  rw [← wsOf_none HD.out H7.out] at hP3
  have hP4 : Pt w3 t.a t.b (wsOf { t.f with spoke := List.replicate t.f.n false }) (wsT { t.f with spoke := List.replicate t.f.n false }) { t.f with spoke := List.replicate t.f.n false } := by
    rw [wsT_none HD.out H7.out]
    rw [wsOf_none HD.out H7.out] at hP3 ⊢
    exact hP3
  have HT := hid (show Th w3 t.clear from Pt.th (t := t.clear) hP4)
  have HS := hid S3
  clear hP3 hP4 hf3 S3 cb cr
  go_wp2
  go_ret
  exact ⟨rfl, _, HT.out, rfl, rfl, rfl, rfl, HS.out.fr⟩

set_option maxRecDepth 1000000 in
theorem step_else {k : Int} (h : Th w t) (n1 : k ≠ 1) (n2 : k ≠ 2) (n3 : k ≠ 3) (n4 : k ≠ 4) (n5 : k ≠ 5) (n6 : k ≠ 6) (n8 : k ≠ 8) : Calls Try.prog 25 #[thV t, stV k o who v] w fun e w' => e = .returned (.bool true) ∧ Kept w t w' := by
  have hS := SB.start (w := w) (t := t) (k := k) (o := o) (who := who) (v := v)
  have hP := h.later (((Below.refl _ w).alloc (Nat.le_refl _) (.cells #[.pointer (some ⟨t.a, 0, none⟩), .pointer (some ⟨t.b, 0, none⟩), .pointer (some ⟨t.f.r, 0, none⟩)] 42)).alloc (by simp) (.cells #[.int .i64 k, .int .i64 o, .int .i64 who, .int .i64 v] 47))
  have HS := hid hS
  have HP := hid hP
  have m1 : (k == 1) = false := by simpa using n1
  have m2 : (k == 2) = false := by simpa using n2
  have m3 : (k == 3) = false := by simpa using n3
  have m4 : (k == 4) = false := by simpa using n4
  have m5 : (k == 5) = false := by simpa using n5
  have m6 : (k == 6) = false := by simpa using n6
  have m8 : (k == 8) = false := by simpa using n8
  clear h hS hP
  go_enter Try.func25, Try.ntmps25
  go_wp2
  go_ret
  exact ⟨rfl, kept_same HP.out HS.out.fr⟩
end
end Go.Proofs.Ytmpbdncgilahkaa

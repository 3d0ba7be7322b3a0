import Derived.Test.YtmpbdncgilahkaaStep2
import Derived.Deep.DeepCutAuto
namespace Go.Proofs.Ytmpbdncgilahkaa
open Go.RowKit
set_option linter.unusedVariables false

section
variable {w : World} {t : Tg} {o who v : Int}

set_option maxHeartbeats 1600000 in
set_option maxRecDepth 1000000 in
theorem step_add_bad (h : Th w t) (hw : who < 0 ∨ (t.f.n : Int) ≤ who) : Calls Try.prog 25 #[thV t, stV 1 o who v] w fun e w' => e = .returned (.bool true) ∧ Kept w t w' := by
  have hS := SB.start (w := w) (t := t) (k := 1) (o := o) (who := who) (v := v)
  have hP := h.later (((Below.refl _ w).alloc (Nat.le_refl _) (.cells #[.pointer (some ⟨t.a, 0, none⟩), .pointer (some ⟨t.b, 0, none⟩), .pointer (some ⟨t.f.r, 0, none⟩)] 42)).alloc (by simp) (.cells #[.int .i64 1, .int .i64 o, .int .i64 who, .int .i64 v] 47))
  have HS := hid hS
  have HP := hid hP
  have HW := hid hw
  clear h hS hP hw
  go_enter Try.func25, Try.ntmps25
  go_wp2_with fail
  refine (AddI_bad HP.out.ta HP.out.one HP.out.seven HW.out).mono ?_
  rintro e w1 ⟨rfl, rfl⟩
  generalize ((w.alloc (.cells #[.pointer (some ⟨t.a, 0, none⟩), .pointer (some ⟨t.b, 0, none⟩), .pointer (some ⟨t.f.r, 0, none⟩)] 42)).alloc (.cells #[.int .i64 1, .int .i64 o, .int .i64 who, .int .i64 v] 47)) = w0 at HS HP ⊢
  go_upto_region 4 with fail
  have c1 := HS.out.b
  have c2 := HS.out.cw
  have c3 := HS.out.cv
  go_cut [7, 8] (fun a b wx => a = .bool false ∧ b = .int .i64 41 ∧ Hid (SB w t 1 o who v wx) ∧ Hid (Th wx t))
  case first =>
    have hs0 := HS.out
    go_region_held3 (fun W => W.cell? ⟨w.heap.size, 1, none⟩ = some (.pointer (some ⟨t.b, 0, none⟩)) ∧ W.cell? ⟨w.heap.size + 1, 2, none⟩ = some (.int .i64 who) ∧ W.cell? ⟨w.heap.size + 1, 3, none⟩ = some (.int .i64 v))
      (first | exact ⟨c1, c2, c3⟩ | exact ⟨hST.b, hST.cw, hST.cv⟩)
      (first
        | (go_at_call 41; refine (text_any v).mono ?_; rintro e wt ⟨rfl, hBt⟩; have hST := (show SB w t 1 o who v w0.drew from ⟨hs0.th, hs0.st, hs0.fr.drew⟩).later hBt; have hPT := (HP.out.keep (fun _ _ => rfl) : Th w0.drew t).later hBt; clear hBt)
        | (go_at_call 40; refine (AddS_bad hPT.tb hPT.one hPT.seven HW.out).mono ?_; rintro e wt2 ⟨rfl, rfl⟩))
    all_goals
      have HST := hid hST
      have HPT := hid hPT
      clear hST hPT hs0
      go_wp2_with fail
      go_meet
      exact ⟨rfl, rfl, HST, HPT⟩
  case rest =>
  obtain ⟨rfl, rfl, HS, HP⟩ := hcut
  have c4 := HS.out.r
  have c5 := HS.out.cw
  have c6 := HS.out.cv
  go_wp2_with fail
  refine (RAdd_bad HP.out.rf HW.out).mono ?_
  rintro e w1 ⟨rfl, rfl⟩
  go_wp2
  go_ret
  exact ⟨rfl, kept_same HP.out HS.out.fr⟩

set_option maxHeartbeats 1600000 in
set_option maxRecDepth 1000000 in
theorem step_add_ok {k : Nat} (h : Th w t) (hk : k < t.f.n) : Calls Try.prog 25 #[thV t, stV 1 o k v] w fun e w' => e = .returned (.bool true) ∧ Kept w t w' := by
  have hS := SB.start (w := w) (t := t) (k := 1) (o := o) (who := k) (v := v)
  have hP := h.later (((Below.refl _ w).alloc (Nat.le_refl _) (.cells #[.pointer (some ⟨t.a, 0, none⟩), .pointer (some ⟨t.b, 0, none⟩), .pointer (some ⟨t.f.r, 0, none⟩)] 42)).alloc (by simp) (.cells #[.int .i64 1, .int .i64 o, .int .i64 k, .int .i64 v] 47))
  have hl := h.pt.lt
  have hls := h.ls
  obtain ⟨y, hy⟩ : ∃ y, t.f.said[k]? = some y := ⟨_, List.getElem?_eq_getElem (by rw [h.rf.lsaid]; exact hk)⟩
  obtain ⟨b, hb⟩ : ∃ b, t.f.spoke[k]? = some b := ⟨_, List.getElem?_eq_getElem (by rw [h.rf.lspoke]; exact hk)⟩
  have ho := wsOf_get hy hb
  have hot := wsT_get hy hb
  have hks : k < t.f.said.length := by rw [h.rf.lsaid]; exact hk
  have HB := hid hb
  have HY := hid hy
  have HK := hid hk
  have HL := hid hl
  have HLS := hid hls
  have HKS := hid hks
  have HS := hid hS
  have HP := hid hP
  clear h hS hP hy hb hk hl hls hks
  have e1 : (bif b then some y else none : Option Int).isSome = b := by cases b <;> rfl
  have e2 : ((bif b then some y else none : Option Int).map txt).isSome = b := by cases b <;> rfl
  have HO := hid ho
  have HOT := hid hot
  have HP := hid HP.out.pt
  clear ho hot
  have E1 := hid e1
  have E2 := hid e2
  clear e1 e2
  go_enter Try.func25, Try.ntmps25
  go_wp2_with fail
  refine (PAddI (v := v) HP.out HK.out HO.out).mono ?_
  rintro e w1 ⟨rfl, hP1, hf1⟩
  rw [E1.out]
  have S1 := HS.out.turn HL.out hf1
  have c1 := S1.b
  have c2 := S1.cw
  have c3 := S1.cv
  have HP := hid hP1
  have HS := hid S1
  clear hP1 hf1 S1
  go_upto_region 4 with fail
  go_cut [7, 8] (fun p q wx => p = .bool (!b) ∧ q = .int .i64 0 ∧ Hid (SB w t 1 o k v wx) ∧ Hid (Pt wx t.a t.b ((wsOf t.f).set k (some v)) ((wsT t.f).set k (some (txt v))) t.f))
  case first =>
    have hs0 := HS.out
    go_region_held3 (fun W => W.cell? ⟨w.heap.size, 1, none⟩ = some (.pointer (some ⟨t.b, 0, none⟩)) ∧ W.cell? ⟨w.heap.size + 1, 2, none⟩ = some (.int .i64 k) ∧ W.cell? ⟨w.heap.size + 1, 3, none⟩ = some (.int .i64 v))
      (first | exact ⟨c1, c2, c3⟩ | exact ⟨hSA.b, hSA.cw, hSA.cv⟩ | exact ⟨hST.b, hST.cw, hST.cv⟩)
      (first
        | (go_at_call 41; refine (text_any v).mono ?_; rintro e wt ⟨rfl, hBt⟩; have hST := (show SB w t 1 o k v w1.drew from ⟨hs0.th, hs0.st, hs0.fr.drew⟩).later hBt; have hPT := HP.out.drew.later hBt; clear hBt)
        | (go_at_call 40; refine (PAddS (v := txt v) hPT HK.out HOT.out).mono ?_; rintro e wt2 ⟨rfl, hPA, hfA⟩; rw [E2.out]; have hSA := hST.turn HL.out hfA; clear hfA))
    all_goals
      have HST := hid hSA
      have HPT := hid hPA
      clear hST hPT hs0 hSA hPA
      go_wp2_with fail
      go_meet
      exact ⟨rfl, rfl, HST, HPT⟩
  case rest =>
  obtain ⟨rfl, rfl, HS, HP⟩ := hcut
  have c4 := HS.out.r
  have c5 := HS.out.cw
  have c6 := HS.out.cv
  go_wp2_with fail
  refine (PAddR (v := v) HP.out HK.out HB.out).mono ?_
  rintro e w3 ⟨rfl, hP3, hf3⟩
  have S3 := HS.out.turn HL.out hf3
  rw [wsOf_add HLS.out HKS.out, wsT_add HLS.out HKS.out] at hP3
  have HT := hid (show Th w3 (t.add k v) from Pt.th (t := t.add k v) hP3)
  have HS := hid S3
  clear hP3 hf3 S3 c1 c2 c3 c4 c5 c6
  cases b with
  | false =>
    go_wp2
    go_ret
    exact ⟨rfl, _, HT.out, rfl, rfl, rfl, rfl, HS.out.fr⟩
  | true =>
    go_wp2
    go_ret
    exact ⟨rfl, _, HT.out, rfl, rfl, rfl, rfl, HS.out.fr⟩

set_option maxHeartbeats 1600000 in
set_option maxRecDepth 1000000 in
theorem step_all (h : Th w t) (hv1 : -9223372036854775808 ≤ v) (hv2 : v < 9223372036854775808) : Calls Try.prog 25 #[thV t, stV 5 o who v] w fun e w' => e = .returned (.bool true) ∧ Kept w t w' := by
  have hS := SB.start (w := w) (t := t) (k := 5) (o := o) (who := who) (v := v)
  have hP := h.later (((Below.refl _ w).alloc (Nat.le_refl _) (.cells #[.pointer (some ⟨t.a, 0, none⟩), .pointer (some ⟨t.b, 0, none⟩), .pointer (some ⟨t.f.r, 0, none⟩)] 42)).alloc (by simp) (.cells #[.int .i64 5, .int .i64 o, .int .i64 who, .int .i64 v] 47))
  have HS := hid hS
  have HP := hid hP
  have V1 := hid hv1
  have V2 := hid hv2
  clear h hS hP hv1 hv2
  obtain ⟨m, hm⟩ : ∃ m, pk v 8 = m := ⟨_, rfl⟩
  have m0 : 0 ≤ m := by have := pk_nn (c := v) (n := 8) (by omega); omega
  have m8 : m < 8 := by have := pk_lt (c := v) (n := 8) (by omega); omega
  have ww : IntKind.i64.wrap (1 + m) = 1 + m := by rw [IntKind.wrap_i64]; omega
  have HM := hid hm
  clear hm
  go_enter Try.func25, Try.ntmps25
  go_upto_region 21 with fail
  generalize ((w.alloc (.cells #[.pointer (some ⟨t.a, 0, none⟩), .pointer (some ⟨t.b, 0, none⟩), .pointer (some ⟨t.f.r, 0, none⟩)] 42)).alloc (.cells #[.int .i64 5, .int .i64 o, .int .i64 who, .int .i64 v] 47)) = w0 at HS HP ⊢
  have c1 := HS.out.a
  have c2 := HS.out.b
  have c3 := HS.out.r
  have c4 := HS.out.cv
  have hs0 := HS.out
  go_region_held3 (fun W => W.cell? ⟨w.heap.size, 0, none⟩ = some (.pointer (some ⟨t.a, 0, none⟩)) ∧ W.cell? ⟨w.heap.size, 1, none⟩ = some (.pointer (some ⟨t.b, 0, none⟩)) ∧ W.cell? ⟨w.heap.size, 2, none⟩ = some (.pointer (some ⟨t.f.r, 0, none⟩)) ∧ W.cell? ⟨w.heap.size + 1, 3, none⟩ = some (.int .i64 v))
    (first | exact ⟨c1, c2, c3, c4⟩ | exact ⟨hST.a, hST.b, hST.r, hST.cv⟩)
    (first
      | (go_at_call 20; refine (pick_any V1.out V2.out (by omega) (by omega)).mono ?_; rintro e wt ⟨rfl, rfl⟩; rw [HM.out])
      | (go_at_call 26; refine (all_any (t := t) (show Th w0.drew t from HP.out.keep (fun _ _ => rfl)) (by omega) (by omega)).mono ?_; rintro e wt2 ⟨rfl, hBt⟩; have hST := (show SB w t 5 o who v w0.drew from ⟨hs0.th, hs0.st, hs0.fr.drew⟩).later hBt; have hPT := (show Th w0.drew t from HP.out.keep (fun _ _ => rfl)).later hBt; clear hBt))
  all_goals
    have HST := hid hST
    have HPT := hid hPT
    clear hST hPT hs0
    go_wp2
    go_ret
    exact ⟨rfl, kept_same HPT.out HST.out.fr⟩

/-- What 'inside' owes. -/
def InOK : Prop := ∀ (w : World) (t : Tg) (who v : Int), Th w t → -9223372036854775808 ≤ who → who < 9223372036854775808 → Calls Try.prog 53 #[thV t, .int .i64 who, .int .i64 v] w fun e w' => e = .returned (.bool true) ∧ Kept w t w'

set_option maxRecDepth 1000000 in
theorem step_in (hin : InOK) (h : Th w t) (hw1 : -9223372036854775808 ≤ who) (hw2 : who < 9223372036854775808) : Calls Try.prog 25 #[thV t, stV 8 o who v] w fun e w' => e = .returned (.bool true) ∧ Kept w t w' := by
  have hS := SB.start (w := w) (t := t) (k := 8) (o := o) (who := who) (v := v)
  have hP := h.later (((Below.refl _ w).alloc (Nat.le_refl _) (.cells #[.pointer (some ⟨t.a, 0, none⟩), .pointer (some ⟨t.b, 0, none⟩), .pointer (some ⟨t.f.r, 0, none⟩)] 42)).alloc (by simp) (.cells #[.int .i64 8, .int .i64 o, .int .i64 who, .int .i64 v] 47))
  have HL := hid h.pt.lt
  have HS := hid hS
  have HP := hid hP
  have HIN := hid hin
  have W1 := hid hw1
  have W2 := hid hw2
  clear h hS hP hin hw1 hw2
  go_enter Try.func25, Try.ntmps25
  go_wp2_with fail
  refine (HIN.out _ t who v HP.out W1.out W2.out).mono ?_
  rintro e w1 ⟨rfl, f, hT, e1, e2, e3, e4, hf⟩
  have hS1 := HS.out.turn HL.out hf
  have HT := hid hT
  have HS := hid hS1
  clear hT hS1 hf
  go_wp2
  go_ret
  exact ⟨rfl, f, HT.out, e1, e2, e3, e4, HS.out.fr⟩

/-- Any step on a thing. -/
theorem step_any (hin : InOK) {k : Int} (h : Th w t) (hw1 : -9223372036854775808 ≤ who) (hw2 : who < 9223372036854775808) (hv1 : -9223372036854775808 ≤ v) (hv2 : v < 9223372036854775808) : Calls Try.prog 25 #[thV t, stV k o who v] w fun e w' => e = .returned (.bool true) ∧ Kept w t w' := by
  have hcase : (who < 0 ∨ (t.f.n : Int) ≤ who) ∨ ∃ j : Nat, who = j ∧ j < t.f.n := by
    by_cases h1 : who < 0 ∨ (t.f.n : Int) ≤ who
    · exact .inl h1
    · exact .inr ⟨who.toNat, by omega, by omega⟩
  by_cases n1 : k = 1
  · subst n1
    rcases hcase with hb | ⟨j, rfl, hj⟩
    · exact step_add_bad h hb
    · exact step_add_ok h hj
  by_cases n2 : k = 2
  · subst n2
    rcases hcase with hb | ⟨j, rfl, hj⟩
    · exact step_get_bad h hb
    · exact step_get_ok h hj
  by_cases n3 : k = 3
  · subst n3
    rcases hcase with hb | ⟨j, rfl, hj⟩
    · exact step_drop_bad h hb
    · exact step_drop_ok h hj
  by_cases n4 : k = 4
  · subst n4; exact step_count h
  by_cases n5 : k = 5
  · subst n5; exact step_all h hv1 hv2
  by_cases n6 : k = 6
  · subst n6; exact step_clear h
  by_cases n8 : k = 8
  · subst n8; exact step_in hin h hw1 hw2
  exact step_else h n1 n2 n3 n4 n5 n6 n8
end
end Go.Proofs.Ytmpbdncgilahkaa

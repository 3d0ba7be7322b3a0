import Derived.Test.YtfeppannfcbakaaGreatDoorJ6
import Derived.Test.YtfeppannfcbakaaGreatDoorJ5
import Derived.Test.YtfeppannfcbakaaGreatDoorJ2
namespace Go.Proofs.YtfeppannfcbakaaGreatDoor
open Go.RowKit
set_option linter.unusedVariables false
set_option maxRecDepth 1000000
set_option maxHeartbeats 1600000
abbrev resV (c n : Int) (s : Value) : Value := .agg #[.int .i64 c, .int .i64 n, s]
def chkX (c n : Int) (l : List ByteArray) : Int :=
 if c < 0 ∨ 4 < c then 50 else if c ≠ 0 ∧ (n ≠ 0 ∨ l ≠ []) then 55 else if n < 0 ∨ 1099511627776 < n then 53
 else if 8 < l.length then 54 else if ∃ t ∈ l, 64 < t.size then 52 else 0
theorem checkX_any {w : World} (c n : Int) {s : Value} {l : List ByteArray} (h : Txts w s l) (hl : l.length ≤ 9223372036854775807) : Calls Tryz.prog 121 #[resV c n s] w fun e w' => e = .returned (.int .i64 (chkX c n l)) ∧ Below w.heap.size w w' := by
 obtain ⟨ao, cp, rfl⟩ := h.form
 have HT := hid h
 have HH : Hid (∀ o, ∃ w1, w1 = w.alloc o) := fun o => ⟨_, rfl⟩
 clear h
 by_cases c0 : c < 0
 · have F : Hid (chkX c n l = 50) := by simp [chkX, c0, Hid]
   have e0 : decide (c < 0) = true := by simpa using c0
   go_enter Tryz.func121, Tryz.ntmps121
   go_wp2
   go_ret
   exact ⟨by rw [F.out]; rfl, ba _ _⟩
 have e0 : decide (c < 0) = false := by simpa using c0
 by_cases c4 : 4 < c
 · have F : Hid (chkX c n l = 50) := by simp [chkX, c4, Hid]
   have e4 : decide (4 < c) = true := by simpa using c4
   go_enter Tryz.func121, Tryz.ntmps121
   go_wp2
   go_ret
   exact ⟨by rw [F.out]; rfl, ba _ _⟩
 have e4 : decide (4 < c) = false := by simpa using c4
 by_cases hcn : c ≠ 0 ∧ (n ≠ 0 ∨ l ≠ [])
 · have F : Hid (chkX c n l = 55) := by unfold chkX; rw [if_neg (by omega), if_pos hcn]; exact rfl
   have ec : (c != 0) = true := by simpa using hcn.1
   by_cases hn : n = 0
   · have hl0 : 0 < l.length := by
       rcases hcn.2 with h | h
       · exact absurd hn h
       · exact List.length_pos_iff.2 h
     subst hn
     have eL : decide (0 < (l.length : Int)) = true := by simpa using hl0
     clear hcn
     go_enter Tryz.func121, Tryz.ntmps121
     go_wp2
     go_ret
     exact ⟨by rw [F.out]; rfl, ba _ _⟩
   · have en : (n != 0) = true := by simpa using hn
     clear hcn
     go_enter Tryz.func121, Tryz.ntmps121
     go_wp2
     go_ret
     exact ⟨by rw [F.out]; rfl, ba _ _⟩
 have G : Hid (c = 0 ∨ (c ≠ 0 ∧ n = 0 ∧ l = [])) := by
   rcases Classical.em (c = 0) with h | h
   · exact Or.inl h
   · refine Or.inr ⟨h, ?_, ?_⟩
     · exact Classical.byContradiction fun hh => hcn ⟨h, Or.inl hh⟩
     · exact Classical.byContradiction fun hh => hcn ⟨h, Or.inr hh⟩
 have F1 : Hid (chkX c n l = if n < 0 ∨ 1099511627776 < n then 53 else if 8 < l.length then 54 else if ∃ t ∈ l, 64 < t.size then 52 else 0) := by unfold chkX; rw [if_neg (by omega), if_neg hcn]; exact rfl
 clear hcn
 rcases G.out with hc | ⟨hc, hn0, hl0⟩
 · subst hc
   clear G e0 e4 c0 c4
   by_cases n0 : n < 0
   · have F : Hid (chkX 0 n l = 53) := by rw [F1.out]; simp [n0, Hid]
     have en : decide (n < 0) = true := by simpa using n0
     clear F1
     go_enter Tryz.func121, Tryz.ntmps121
     go_wp2
     go_ret
     exact ⟨by rw [F.out]; rfl, ba _ _⟩
   have en : decide (n < 0) = false := by simpa using n0
   by_cases n1 : 1099511627776 < n
   · have F : Hid (chkX 0 n l = 53) := by rw [F1.out]; simp [n1, Hid]
     have en1 : decide (1099511627776 < n) = true := by simpa using n1
     clear F1
     go_enter Tryz.func121, Tryz.ntmps121
     go_wp2
     go_ret
     exact ⟨by rw [F.out]; rfl, ba _ _⟩
   have en1 : decide (1099511627776 < n) = false := by simpa using n1
   by_cases l8 : 8 < l.length
   · have F : Hid (chkX 0 n l = 54) := by rw [F1.out]; simp [l8, Hid]; omega
     have e8 : decide ((8 : Int) < (l.length : Int)) = true := by simp; omega
     clear F1
     go_enter Tryz.func121, Tryz.ntmps121
     go_wp2
     go_ret
     exact ⟨by rw [F.out]; rfl, ba _ _⟩
   have e8 : decide ((8 : Int) < (l.length : Int)) = false := by simp; omega
   have F2 : Hid (chkX 0 n l = if ∃ t ∈ l, 64 < t.size then 52 else 0) := by rw [F1.out, if_neg (by omega), if_neg l8]; exact rfl
   clear F1
   go_enter Tryz.func121, Tryz.ntmps121
   go_wp2
   go_loopw [46] (fun iv wr => ∃ k : Nat, iv = .int .i64 (k : Int) ∧ k ≤ l.length ∧ Hid (∀ j (hj : j < k) (hl : j < l.length), l[j].size ≤ 64) ∧ wr = w.alloc (.cells #[.int .i64 0, .int .i64 n, .slice ao l.length cp] 29)) (fun iv _ => l.length - (intOf iv).toNat)
   case atStart => exact ⟨0, rfl, Nat.zero_le _, fun j hj => absurd hj (by omega), rfl⟩
   case round =>
     obtain ⟨k, rfl, hk, hbef, rfl⟩ := hrel
     by_cases hlt : k < l.length
     · obtain ⟨g, o, ea, hg, hcell⟩ := (HT.out.alloc (.cells #[.int .i64 0, .int .i64 n, .slice ao l.length cp] 29)).at hlt
       subst ea
       have el : decide ((k : Int) < (l.length : Int)) = true := by simpa using hlt
       by_cases h64 : 64 < (l[k]'hlt).size
       · have e64 : decide ((64 : Int) < ((l[k]'hlt).size : Int)) = true := by simp; omega
         go_wp2
         go_ret
         exact ⟨by rw [F2.out, if_pos ⟨_, List.getElem_mem hlt, h64⟩]; rfl, ba _ _⟩
       · have e64 : decide ((64 : Int) < ((l[k]'hlt).size : Int)) = false := by simp; omega
         go_wp2
         go_roundw
         case rel => exact ⟨k + 1, by go_num, by omega, fun j hj hl => by rcases Nat.lt_succ_iff_lt_or_eq.1 hj with h | h; exact hbef.out j h hl; subst h; omega, trivial⟩
         case measure => simp [intOf]; omega
     · have el : decide ((k : Int) < (l.length : Int)) = false := by simp; omega
       go_wp2
       go_ret
       exact ⟨by rw [F2.out, if_neg]; rfl; rintro ⟨t, ht, h64⟩; obtain ⟨j, hj, rfl⟩ := List.getElem_of_mem ht; have := hbef.out j (by omega) hj; omega, ba _ _⟩
 · subst hn0
   subst hl0
   have F2 : Hid (chkX c 0 [] = 0) := by rw [F1.out]; simp [Hid]
   have ec : (c != 0) = true := by simpa using hc
   clear F1 G
   simp only [List.length_nil] at HT ⊢
   go_enter Tryz.func121, Tryz.ntmps121
   go_wp2
   go_loopw [46] (fun iv wr => iv = .int .i64 0 ∧ wr = w.alloc (.cells #[.int .i64 c, .int .i64 0, .slice ao 0 cp] 29)) (fun iv _ => 0)
   case atStart => exact ⟨rfl, rfl⟩
   case round =>
     obtain ⟨rfl, rfl⟩ := hrel
     go_wp2
     go_ret
     exact ⟨by rw [F2.out]; rfl, ba _ _⟩
theorem checkX_ref {w : World} (c n : Int) {s : Value} {l : List ByteArray} (h : Txts w s l) (hl : l.length ≤ 9223372036854775807) : Calls Tryz.prog 100 #[resV c n s] w fun e w' => e = .returned (.int .i64 (chkX c n l)) ∧ Below w.heap.size w w' := by
 obtain ⟨ao, cp, rfl⟩ := h.form
 have HT := hid h
 have HH : Hid (∀ o, ∃ w1, w1 = w.alloc o) := fun o => ⟨_, rfl⟩
 clear h
 by_cases c0 : c < 0
 · have F : Hid (chkX c n l = 50) := by simp [chkX, c0, Hid]
   have e0 : decide (c < 0) = true := by simpa using c0
   go_enter Tryz.func100, Tryz.ntmps100
   go_wp2
   go_ret
   exact ⟨by rw [F.out]; rfl, ba _ _⟩
 have e0 : decide (c < 0) = false := by simpa using c0
 by_cases c4 : 4 < c
 · have F : Hid (chkX c n l = 50) := by simp [chkX, c4, Hid]
   have e4 : decide (4 < c) = true := by simpa using c4
   go_enter Tryz.func100, Tryz.ntmps100
   go_wp2
   go_ret
   exact ⟨by rw [F.out]; rfl, ba _ _⟩
 have e4 : decide (4 < c) = false := by simpa using c4
 by_cases hcn : c ≠ 0 ∧ (n ≠ 0 ∨ l ≠ [])
 · have F : Hid (chkX c n l = 55) := by unfold chkX; rw [if_neg (by omega), if_pos hcn]; exact rfl
   have ec : (c != 0) = true := by simpa using hcn.1
   by_cases hn : n = 0
   · have hl0 : 0 < l.length := by
       rcases hcn.2 with h | h
       · exact absurd hn h
       · exact List.length_pos_iff.2 h
     subst hn
     have eL : decide (0 < (l.length : Int)) = true := by simpa using hl0
     clear hcn
     go_enter Tryz.func100, Tryz.ntmps100
     go_wp2
     go_ret
     exact ⟨by rw [F.out]; rfl, ba _ _⟩
   · have en : (n != 0) = true := by simpa using hn
     clear hcn
     go_enter Tryz.func100, Tryz.ntmps100
     go_wp2
     go_ret
     exact ⟨by rw [F.out]; rfl, ba _ _⟩
 have G : Hid (c = 0 ∨ (c ≠ 0 ∧ n = 0 ∧ l = [])) := by
   rcases Classical.em (c = 0) with h | h
   · exact Or.inl h
   · refine Or.inr ⟨h, ?_, ?_⟩
     · exact Classical.byContradiction fun hh => hcn ⟨h, Or.inl hh⟩
     · exact Classical.byContradiction fun hh => hcn ⟨h, Or.inr hh⟩
 have F1 : Hid (chkX c n l = if n < 0 ∨ 1099511627776 < n then 53 else if 8 < l.length then 54 else if ∃ t ∈ l, 64 < t.size then 52 else 0) := by unfold chkX; rw [if_neg (by omega), if_neg hcn]; exact rfl
 clear hcn
 rcases G.out with hc | ⟨hc, hn0, hl0⟩
 · subst hc
   clear G e0 e4 c0 c4
   by_cases n0 : n < 0
   · have F : Hid (chkX 0 n l = 53) := by rw [F1.out]; simp [n0, Hid]
     have en : decide (n < 0) = true := by simpa using n0
     clear F1
     go_enter Tryz.func100, Tryz.ntmps100
     go_wp2
     go_ret
     exact ⟨by rw [F.out]; rfl, ba _ _⟩
   have en : decide (n < 0) = false := by simpa using n0
   by_cases n1 : 1099511627776 < n
   · have F : Hid (chkX 0 n l = 53) := by rw [F1.out]; simp [n1, Hid]
     have en1 : decide (1099511627776 < n) = true := by simpa using n1
     clear F1
     go_enter Tryz.func100, Tryz.ntmps100
     go_wp2
     go_ret
     exact ⟨by rw [F.out]; rfl, ba _ _⟩
   have en1 : decide (1099511627776 < n) = false := by simpa using n1
   by_cases l8 : 8 < l.length
   · have F : Hid (chkX 0 n l = 54) := by rw [F1.out]; simp [l8, Hid]; omega
     have e8 : decide ((8 : Int) < (l.length : Int)) = true := by simp; omega
     clear F1
     go_enter Tryz.func100, Tryz.ntmps100
     go_wp2
     go_ret
     exact ⟨by rw [F.out]; rfl, ba _ _⟩
   have e8 : decide ((8 : Int) < (l.length : Int)) = false := by simp; omega
   have F2 : Hid (chkX 0 n l = if ∃ t ∈ l, 64 < t.size then 52 else 0) := by rw [F1.out, if_neg (by omega), if_neg l8]; exact rfl
   clear F1
   go_enter Tryz.func100, Tryz.ntmps100
   go_wp2
   go_loopw [3] (fun iv wr => ∃ k : Nat, iv = .int .i64 (k : Int) ∧ k ≤ l.length ∧ Hid (∀ j (hj : j < k) (hl : j < l.length), l[j].size ≤ 64) ∧ wr = w.alloc (.cells #[.int .i64 0, .int .i64 n, .slice ao l.length cp] 29)) (fun iv _ => l.length - (intOf iv).toNat)
   case atStart => exact ⟨0, rfl, Nat.zero_le _, fun j hj => absurd hj (by omega), rfl⟩
   case round =>
     obtain ⟨k, rfl, hk, hbef, rfl⟩ := hrel
     by_cases hlt : k < l.length
     · obtain ⟨g, o, ea, hg, hcell⟩ := (HT.out.alloc (.cells #[.int .i64 0, .int .i64 n, .slice ao l.length cp] 29)).at hlt
       subst ea
       have el : decide ((k : Int) < (l.length : Int)) = true := by simpa using hlt
       by_cases h64 : 64 < (l[k]'hlt).size
       · have e64 : decide ((64 : Int) < ((l[k]'hlt).size : Int)) = true := by simp; omega
         go_wp2
         go_ret
         exact ⟨by rw [F2.out, if_pos ⟨_, List.getElem_mem hlt, h64⟩]; rfl, ba _ _⟩
       · have e64 : decide ((64 : Int) < ((l[k]'hlt).size : Int)) = false := by simp; omega
         go_wp2
         go_roundw
         case rel => exact ⟨k + 1, by go_num, by omega, fun j hj hl => by rcases Nat.lt_succ_iff_lt_or_eq.1 hj with h | h; exact hbef.out j h hl; subst h; omega, trivial⟩
         case measure => simp [intOf]; omega
     · have el : decide ((k : Int) < (l.length : Int)) = false := by simp; omega
       go_wp2
       go_ret
       exact ⟨by rw [F2.out, if_neg]; rfl; rintro ⟨t, ht, h64⟩; obtain ⟨j, hj, rfl⟩ := List.getElem_of_mem ht; have := hbef.out j (by omega) hj; omega, ba _ _⟩
 · subst hn0
   subst hl0
   have F2 : Hid (chkX c 0 [] = 0) := by rw [F1.out]; simp [Hid]
   have ec : (c != 0) = true := by simpa using hc
   clear F1 G
   simp only [List.length_nil] at HT ⊢
   go_enter Tryz.func100, Tryz.ntmps100
   go_wp2
   go_loopw [3] (fun iv wr => iv = .int .i64 0 ∧ wr = w.alloc (.cells #[.int .i64 c, .int .i64 0, .slice ao 0 cp] 29)) (fun iv _ => 0)
   case atStart => exact ⟨rfl, rfl⟩
   case round =>
     obtain ⟨rfl, rfl⟩ := hrel
     go_wp2
     go_ret
     exact ⟨by rw [F2.out]; rfl, ba _ _⟩
set_option linter.unusedVariables false
set_option maxRecDepth 1000000
def cdN : Ws := [[100, 111, 110, 101], [110, 111, 110, 101], [116, 104, 101, 114, 101], [102, 117, 108, 108], [101, 109, 112, 116, 121]]
def Cd (w : World) : Prop := 3 < w.heap.size ∧ ∀ k, k < 5 → w.cell? ⟨3, k, none⟩ = some (.string ⟨(cdN.getD k []).toArray⟩)
theorem Cd.later {w w' : World} (h : Cd w) (hb : Below w.heap.size w w') : Cd w' := ⟨Nat.lt_of_lt_of_le h.1 hb.size, fun k hk => cell_under hb h.1 (h.2 k hk)⟩
abbrev mkB (x : List UInt8) : ByteArray := ⟨x.toArray⟩
theorem Rt.txts {w : World} {s : Value} {l : Ws} (h : Rt w s l) : Txts w s (l.map mkB) := by
 obtain ⟨ao, c, e, hc, hx⟩ := h
 refine ⟨ao, c, by rw [e, List.length_map], by rw [List.length_map]; exact hc, ?_⟩
 rcases hx with rfl | ⟨g, o, ea, hg, hcell⟩
 · exact Or.inl rfl
 · refine Or.inr ⟨g, o, ea, hg, fun j hj => ?_⟩
   rw [List.length_map] at hj
   rw [hcell j hj, List.getElem_map]
def chkW (c n : Int) (l : Ws) : Int := chkX c n (l.map mkB)
theorem check12 {w : World} (c n : Int) {s : Value} {l : Ws} (h : Rt w s l) (hl : l.length ≤ 140737488355328) : Calls Tryz.prog 121 #[resV c n s] w fun e w' => e = .returned (.int .i64 (chkW c n l)) ∧ Below w.heap.size w w' := checkX_any c n h.txts (by rw [List.length_map]; omega)
theorem check15 {w : World} (c n : Int) {s : Value} {l : Ws} (h : Rt w s l) (hl : l.length ≤ 140737488355328) : Calls Tryz.prog 100 #[resV c n s] w fun e w' => e = .returned (.int .i64 (chkW c n l)) ∧ Below w.heap.size w w' := checkX_ref c n h.txts (by rw [List.length_map]; omega)
theorem clone_any {v : Value} {l : Ws} {cs : List Comp} {w : World} (A : All cs w) (h : Rt w v l) (hl : l.length * 16 ≤ 140737488355328) :
   Calls Tryz.prog 179 #[v] w fun e w' => ∃ v', e = .returned v' ∧ All (ownC 9 v' (txW l) :: cs) w' := by
 obtain ⟨ao0, c0, rfl⟩ := h.form
 obtain ⟨ao, c, w', hr, A2⟩ := appR (l := []) (own_new A [] (by simp)) (h.later (ba w _)) (by simpa using hl)
 rw [List.length_nil, Nat.zero_add, List.nil_append] at A2
 rw [List.length_nil, Nat.zero_add] at hr
 cases ao0 with
 | none =>
   have hl0 : l = [] := by
     obtain ⟨ao', c', e, _, hx⟩ := h
     rcases hx with rfl | ⟨g, o, rfl, _⟩
     · rfl
     · simp at e
   subst hl0
   have D := hid (All.addNil (e := 9) A)
   have he := fun w => Lib.run_eql_slice_nil (P := Tryz.prog) w 27 9 none 0 c0 0 0 Tryz.underlying27
   clear hr A2 A h hl
   go_enter Tryz.func179, Tryz.ntmps179
   go_wp2
   go_ret
   exact ⟨_, rfl, D.out⟩
 | some a =>
   have R : Hid ((Builtin.append_ #[27, 27] 27 #[.slice (some ⟨w.heap.size, 0, none⟩) 0 0, .slice (some a) l.length c0]).run Tryz.prog (w.alloc (.cells #[] 9)) = .ok (.slice ao l.length c) w') := hid hr
   have B := hid A2
   have he := fun w => Lib.run_eql_slice_nil (P := Tryz.prog) w 27 9 (some a) l.length c0 0 0 Tryz.underlying27
   clear hr A2 A h hl
   generalize hn : l.length = n at *
   clear hn
   go_enter Tryz.func179, Tryz.ntmps179
   go_wp2_with (at_builtin; refine wpList_append_run rfl _ _ 27 rfl _ _ _ _ rfl rfl R.out ?_)
   go_ret
   exact ⟨_, rfl, B.out⟩
theorem codes_any {w : World} : Calls Tryz.prog 101 #[] w fun e w' => e = .returned (.slice (some ⟨w.heap.size, 0, none⟩) 5 5) ∧ w' = w.alloc (.cells (txW cdN).toArray 9) := by
 have e1 : (txW cdN).toArray = #[.string ⟨#[100, 111, 110, 101]⟩, .string ⟨#[110, 111, 110, 101]⟩, .string ⟨#[116, 104, 101, 114, 101]⟩, .string ⟨#[102, 117, 108, 108]⟩, .string ⟨#[101, 109, 112, 116, 121]⟩] := rfl
 rw [e1]
 clear e1
 go_enter Tryz.func101, Tryz.ntmps101
 go_wp2
 go_ret
 exact ⟨rfl, rfl⟩
theorem rt_codes (w : World) : Rt (w.alloc (.cells (txW cdN).toArray 9)) (.slice (some ⟨w.heap.size, 0, none⟩) 5 5) cdN := rt_own (own_new (All.came w) cdN (by simp [cdN]))
set_option linter.unusedVariables false
set_option maxRecDepth 1000000
set_option maxHeartbeats 1600000
def codeW (x : List UInt8) : Option Nat := findW x 0 cdN
def codeA (x : List UInt8) : Value := .tuple #[.int .i64 (((codeW x).getD 0 : Nat) : Int), .bool (codeW x).isSome]
theorem codeOf_any {x : List UInt8} {w : World} (C : Cd w) : Calls Tryz.prog 170 #[.string ⟨x.toArray⟩] w fun e w' => e = .returned (codeA x) ∧ w' = w := by
 have c0 := C.2 0 (by omega)
 have c1 := C.2 1 (by omega)
 have c2 := C.2 2 (by omega)
 have c3 := C.2 3 (by omega)
 have c4 := C.2 4 (by omega)
 have q0 := ba_ne (x := cdN.getD 0 []) (y := x)
 have q1 := ba_ne (x := cdN.getD 1 []) (y := x)
 have q2 := ba_ne (x := cdN.getD 2 []) (y := x)
 have q3 := ba_ne (x := cdN.getD 3 []) (y := x)
 have q4 := ba_ne (x := cdN.getD 4 []) (y := x)
 have F : Hid (codeW x = if cdN.getD 0 [] = x then some 0 else if cdN.getD 1 [] = x then some 1 else if cdN.getD 2 [] = x then some 2 else if cdN.getD 3 [] = x then some 3 else if cdN.getD 4 [] = x then some 4 else none) := hid (by
   unfold codeW cdN
   simp only [findW]
   rfl)
 have key : ∀ D, codeW x = D → Hid (codeA x = .tuple #[.int .i64 ((D.getD 0 : Nat) : Int), .bool D.isSome]) := fun D h => hid (by unfold codeA; rw [h])
 generalize codeA x = AN at *
 clear C
 generalize hd0 : cdN.getD 0 [] = d0 at *
 generalize hd1 : cdN.getD 1 [] = d1 at *
 generalize hd2 : cdN.getD 2 [] = d2 at *
 generalize hd3 : cdN.getD 3 [] = d3 at *
 generalize hd4 : cdN.getD 4 [] = d4 at *
 clear hd0 hd1 hd2 hd3 hd4
 generalize ByteArray.mk x.toArray = X at *
 generalize ByteArray.mk d0.toArray = D0 at *
 generalize ByteArray.mk d1.toArray = D1 at *
 generalize ByteArray.mk d2.toArray = D2 at *
 generalize ByteArray.mk d3.toArray = D3 at *
 generalize ByteArray.mk d4.toArray = D4 at *
 have ix0 : ∀ W, (Instr.index 175 (.agg #[.string D0, .string D1, .string D2, .string D3, .string D4]) (.int .i64 0)).run Tryz.prog W = .ok (.string D0) W := fun W => by kernel_rfl
 have ix1 : ∀ W, (Instr.index 175 (.agg #[.string D0, .string D1, .string D2, .string D3, .string D4]) (.int .i64 1)).run Tryz.prog W = .ok (.string D1) W := fun W => by kernel_rfl
 have ix2 : ∀ W, (Instr.index 175 (.agg #[.string D0, .string D1, .string D2, .string D3, .string D4]) (.int .i64 2)).run Tryz.prog W = .ok (.string D2) W := fun W => by kernel_rfl
 have ix3 : ∀ W, (Instr.index 175 (.agg #[.string D0, .string D1, .string D2, .string D3, .string D4]) (.int .i64 3)).run Tryz.prog W = .ok (.string D3) W := fun W => by kernel_rfl
 have ix4 : ∀ W, (Instr.index 175 (.agg #[.string D0, .string D1, .string D2, .string D3, .string D4]) (.int .i64 4)).run Tryz.prog W = .ok (.string D4) W := fun W => by kernel_rfl
 go_enter Tryz.func170, Tryz.ntmps170
 go_wp2
 go_loopw [7] (fun iv wr => ∃ k : Int, 0 ≤ k ∧ k ≤ 5 ∧ iv = .int .i64 k ∧ wr = w ∧ Hid ((0 < k → d0 ≠ x) ∧ (1 < k → d1 ≠ x) ∧ (2 < k → d2 ≠ x) ∧ (3 < k → d3 ≠ x) ∧ (4 < k → d4 ≠ x))) (fun iv _ => 5 - (intOf iv).toNat)
 case atStart => exact ⟨0, by omega, by omega, rfl, rfl, hid ⟨fun h => absurd h (by omega), fun h => absurd h (by omega), fun h => absurd h (by omega), fun h => absurd h (by omega), fun h => absurd h (by omega)⟩⟩
 case round =>
   obtain ⟨k, hk0, hk5, rfl, rfl, hn⟩ := hrel
   obtain rfl | rfl | rfl | rfl | rfl | rfl : k = 0 ∨ k = 1 ∨ k = 2 ∨ k = 3 ∨ k = 4 ∨ k = 5 := by omega
   · clear hk0 hk5
     by_cases e0 : d0 = x
     · have H := key (some 0) (by rw [F.out, if_pos e0])
       rw [decide_eq_true e0] at q0
       clear key F hn e0
       go_wp2
       go_ret2
       exact ⟨by rw [H.out]; rfl, rfl⟩
     · rw [decide_eq_false e0] at q0
       have nx : Hid ((0 < (0 : Int) + 1 → d0 ≠ x) ∧ (1 < (0 : Int) + 1 → d1 ≠ x) ∧ (2 < (0 : Int) + 1 → d2 ≠ x) ∧ (3 < (0 : Int) + 1 → d3 ≠ x) ∧ (4 < (0 : Int) + 1 → d4 ≠ x)) := hid ⟨fun _ => e0, fun h => by first | exact hn.out.2.1 (by omega) | exact e0 | omega, fun h => by first | exact hn.out.2.2.1 (by omega) | exact e0 | omega, fun h => by first | exact hn.out.2.2.2.1 (by omega) | exact e0 | omega, fun h => by first | exact hn.out.2.2.2.2 (by omega) | exact e0 | omega⟩
       clear hn e0
       go_wp2
       go_roundw
       case rel => exact ⟨0 + 1, by omega, by omega, by go_num, trivial, nx⟩
       case measure => simp [intOf]
   · clear hk0 hk5
     by_cases e1 : d1 = x
     · have H := key (some 1) (by rw [F.out, if_neg (hn.out.1 (by omega)), if_pos e1])
       rw [decide_eq_true e1] at q1
       clear key F hn e1
       go_wp2
       go_ret2
       exact ⟨by rw [H.out]; rfl, rfl⟩
     · rw [decide_eq_false e1] at q1
       have nx : Hid ((0 < (1 : Int) + 1 → d0 ≠ x) ∧ (1 < (1 : Int) + 1 → d1 ≠ x) ∧ (2 < (1 : Int) + 1 → d2 ≠ x) ∧ (3 < (1 : Int) + 1 → d3 ≠ x) ∧ (4 < (1 : Int) + 1 → d4 ≠ x)) := hid ⟨fun h => by first | exact hn.out.1 (by omega) | exact e1 | omega, fun _ => e1, fun h => by first | exact hn.out.2.2.1 (by omega) | exact e1 | omega, fun h => by first | exact hn.out.2.2.2.1 (by omega) | exact e1 | omega, fun h => by first | exact hn.out.2.2.2.2 (by omega) | exact e1 | omega⟩
       clear hn e1
       go_wp2
       go_roundw
       case rel => exact ⟨1 + 1, by omega, by omega, by go_num, trivial, nx⟩
       case measure => simp [intOf]
   · clear hk0 hk5
     by_cases e2 : d2 = x
     · have H := key (some 2) (by rw [F.out, if_neg (hn.out.1 (by omega)), if_neg (hn.out.2.1 (by omega)), if_pos e2])
       rw [decide_eq_true e2] at q2
       clear key F hn e2
       go_wp2
       go_ret2
       exact ⟨by rw [H.out]; rfl, rfl⟩
     · rw [decide_eq_false e2] at q2
       have nx : Hid ((0 < (2 : Int) + 1 → d0 ≠ x) ∧ (1 < (2 : Int) + 1 → d1 ≠ x) ∧ (2 < (2 : Int) + 1 → d2 ≠ x) ∧ (3 < (2 : Int) + 1 → d3 ≠ x) ∧ (4 < (2 : Int) + 1 → d4 ≠ x)) := hid ⟨fun h => by first | exact hn.out.1 (by omega) | exact e2 | omega, fun h => by first | exact hn.out.2.1 (by omega) | exact e2 | omega, fun _ => e2, fun h => by first | exact hn.out.2.2.2.1 (by omega) | exact e2 | omega, fun h => by first | exact hn.out.2.2.2.2 (by omega) | exact e2 | omega⟩
       clear hn e2
       go_wp2
       go_roundw
       case rel => exact ⟨2 + 1, by omega, by omega, by go_num, trivial, nx⟩
       case measure => simp [intOf]
   · clear hk0 hk5
     by_cases e3 : d3 = x
     · have H := key (some 3) (by rw [F.out, if_neg (hn.out.1 (by omega)), if_neg (hn.out.2.1 (by omega)), if_neg (hn.out.2.2.1 (by omega)), if_pos e3])
       rw [decide_eq_true e3] at q3
       clear key F hn e3
       go_wp2
       go_ret2
       exact ⟨by rw [H.out]; rfl, rfl⟩
     · rw [decide_eq_false e3] at q3
       have nx : Hid ((0 < (3 : Int) + 1 → d0 ≠ x) ∧ (1 < (3 : Int) + 1 → d1 ≠ x) ∧ (2 < (3 : Int) + 1 → d2 ≠ x) ∧ (3 < (3 : Int) + 1 → d3 ≠ x) ∧ (4 < (3 : Int) + 1 → d4 ≠ x)) := hid ⟨fun h => by first | exact hn.out.1 (by omega) | exact e3 | omega, fun h => by first | exact hn.out.2.1 (by omega) | exact e3 | omega, fun h => by first | exact hn.out.2.2.1 (by omega) | exact e3 | omega, fun _ => e3, fun h => by first | exact hn.out.2.2.2.2 (by omega) | exact e3 | omega⟩
       clear hn e3
       go_wp2
       go_roundw
       case rel => exact ⟨3 + 1, by omega, by omega, by go_num, trivial, nx⟩
       case measure => simp [intOf]
   · clear hk0 hk5
     by_cases e4 : d4 = x
     · have H := key (some 4) (by rw [F.out, if_neg (hn.out.1 (by omega)), if_neg (hn.out.2.1 (by omega)), if_neg (hn.out.2.2.1 (by omega)), if_neg (hn.out.2.2.2.1 (by omega)), if_pos e4])
       rw [decide_eq_true e4] at q4
       clear key F hn e4
       go_wp2
       go_ret2
       exact ⟨by rw [H.out]; rfl, rfl⟩
     · rw [decide_eq_false e4] at q4
       have nx : Hid ((0 < (4 : Int) + 1 → d0 ≠ x) ∧ (1 < (4 : Int) + 1 → d1 ≠ x) ∧ (2 < (4 : Int) + 1 → d2 ≠ x) ∧ (3 < (4 : Int) + 1 → d3 ≠ x) ∧ (4 < (4 : Int) + 1 → d4 ≠ x)) := hid ⟨fun h => by first | exact hn.out.1 (by omega) | exact e4 | omega, fun h => by first | exact hn.out.2.1 (by omega) | exact e4 | omega, fun h => by first | exact hn.out.2.2.1 (by omega) | exact e4 | omega, fun h => by first | exact hn.out.2.2.2.1 (by omega) | exact e4 | omega, fun _ => e4⟩
       clear hn e4
       go_wp2
       go_roundw
       case rel => exact ⟨4 + 1, by omega, by omega, by go_num, trivial, nx⟩
       case measure => simp [intOf]
   · clear hk0 hk5
     have H := key none (by rw [F.out, if_neg (hn.out.1 (by omega)), if_neg (hn.out.2.1 (by omega)), if_neg (hn.out.2.2.1 (by omega)), if_neg (hn.out.2.2.2.1 (by omega)), if_neg (hn.out.2.2.2.2 (by omega))])
     clear key F hn
     go_wp2
     go_ret2
     exact ⟨by rw [H.out]; rfl, rfl⟩
def natA (l : Ws) (p : Nat) : Value := if l.length ≤ p then .tuple #[.int .i64 0, .int .i64 162] else match numW (l.getD p []) with
 | none => .tuple #[.int .i64 0, .int .i64 163]
 | some n => .tuple #[.int .i64 (n : Int), .int .i64 0]
theorem numberAt_any {v : Value} {l : Ws} {p : Nat} {w : World} (V : Vars w) (h : Rt w v l) (hl : l.length ≤ 140737488355328) (hs : ∀ x ∈ l, x.length ≤ 140737488355328) :
   Calls Tryz.prog 178 #[v, .int .i64 (p : Int)] w fun e w' => e = .returned (natA l p) ∧ Below w.heap.size w w' := by
 obtain ⟨ao, c, rfl⟩ := h.form
 by_cases hp : l.length ≤ p
 · have e1 : natA l p = .tuple #[.int .i64 0, .int .i64 162] := by unfold natA; rw [if_pos hp]
   rw [e1]
   have hp' : (l.length : Int) ≤ (p : Int) := by omega
   clear e1 hp h V hs
   generalize l.length = n at *
   go_enter Tryz.func178, Tryz.ntmps178
   go_wp2
   go_ret2
   exact ⟨rfl, Below.refl _ _⟩
 · obtain ⟨g, o, rfl, _, h1⟩ := h.at (j := p) (by omega)
   have hx : (l.getD p []).length ≤ 140737488355328 := hs _ (by
     have hlt : p < l.length := by omega
     have : l.getD p [] = l[p] := by simp [List.getD, hlt]
     rw [this]; exact List.getElem_mem hlt)
   have C := hid (Number_any (l := l.getD p []) V hx)
   have hp' : ¬ (l.length : Int) ≤ (p : Int) := by omega
   have hlt : p < l.length := by omega
   cases hN : numW (l.getD p []) with
   | none =>
     have e1 : natA l p = .tuple #[.int .i64 0, .int .i64 163] := by unfold natA; rw [if_neg hp, hN]
     rw [e1]
     unfold numA at C
     rw [hN] at C
     simp only [Option.getD_none, Option.isSome_none] at C
     clear e1 hN h V hs hp hx
     generalize ByteArray.mk (l.getD p []).toArray = X at *
     generalize l.length = n at *
     go_enter Tryz.func178, Tryz.ntmps178
     go_wp2_with (go_at_call 81; refine C.out.mono ?_; rintro e w1 ⟨rfl, B1⟩; have BB := hid B1; clear B1)
     go_ret2
     exact ⟨rfl, BB.out⟩
   | some z =>
     have e1 : natA l p = .tuple #[.int .i64 (z : Int), .int .i64 0] := by unfold natA; rw [if_neg hp, hN]
     rw [e1]
     unfold numA at C
     rw [hN] at C
     simp only [Option.getD_some, Option.isSome_some] at C
     clear e1 hN h V hs hp hx
     generalize ByteArray.mk (l.getD p []).toArray = X at *
     generalize l.length = n at *
     go_enter Tryz.func178, Tryz.ntmps178
     go_wp2_with (go_at_call 81; refine C.out.mono ?_; rintro e w1 ⟨rfl, B1⟩; have BB := hid B1; clear B1)
     go_ret2
     exact ⟨rfl, BB.out⟩
set_option linter.unusedVariables false
set_option maxRecDepth 1000000
set_option maxHeartbeats 3200000
theorem Tryz.size24 : (Tryz.prog.info? 29).map (·.size) = some 3 := by kernel_rfl
theorem ret_cell3 {fn : Func} (hf : fn.results = #[.cell 2 29, .tmp 3, .tmp 4]) {R : Ending → World → Prop} {a : Act} {w : World} {b : Nat} {c n v k e : Value} (ht : a.tmps.getD 2 undef = ptr b) (h3 : a.tmps.getD 3 undef = k) (h4 : a.tmps.getD 4 undef = e) (hg : w.heap[b]? = some (.cells #[c, n, v] 29 (0, 0))) (hd : a.defers = []) (hR : R (.returned (.tuple #[.agg #[c, n, v], k, e])) w) : bodyPost Tryz.prog fn R .ret a w := by
 refine bodyPost_ret (v := .tuple #[.agg #[c, n, v], k, e]) ?_ hd hR
 have hp : a.tmps[2]?.getD undef = ptr b := by rw [← ht]; simp
 have hp3 : a.tmps[3]?.getD undef = k := by rw [← h3]; simp
 have hp4 : a.tmps[4]?.getD undef = e := by rw [← h4]; simp
 simp [results, hf, hp, hp3, hp4, asAddr, run_loadVar_row w b 29 29 #[c, n, v] (0, 0) _ hg Tryz.underlying29 rfl (by rw [Tryz.size24]; rfl)]
structure RR where
 c : Int
 n : Int
 items : Ws
 k : Nat
 e : Int
def RR.bad (e : Int) : RR := ⟨0, 0, [], 0, e⟩
def RRPost (r : RR) (cs : List Comp) (en : Ending) (w' : World) : Prop :=
 ∃ v, en = .returned (.tuple #[resV r.c r.n v, .int .i64 (r.k : Int), .int .i64 r.e]) ∧ All (ownC 9 v (txW r.items) :: cs) w'
def readD (l : Ws) : RR :=
 if l.length < 2 then .bad 162 else match numW (l.getD 1 []) with
 | none => .bad 163
 | some n => if l.length < 3 then .bad 162 else match numW (l.getD 2 []) with
   | none => .bad 163
   | some m => if l.length < m + 3 then .bad 162 else if chkW 0 n ((l.drop 3).take m) ≠ 0 then .bad (chkW 0 n ((l.drop 3).take m)) else ⟨0, n, (l.drop 3).take m, 3 + m, 0⟩
def readR (l : Ws) : RR := match l with
 | [] => .bad 162
 | x :: _ => match codeW x with
   | none => .bad 163
   | some 0 => readD l
   | some (c + 1) => ⟨(c : Int) + 1, 0, [], 1, 0⟩
theorem zero_blk {B : Nat} {cs : List Comp} {w : World} (h : All (blkC B [.int .i64 0, .int .i64 0, .slice none 0 0] 29 :: cs) w) : (w.cell? ⟨B, 0, none⟩ = some (.int .i64 0) ∧ w.cell? ⟨B, 1, none⟩ = some (.int .i64 0) ∧ w.cell? ⟨B, 2, none⟩ = some (.slice none 0 0)) ∧ w.frozen? ⟨B, 0, none⟩ = false ∧ w.frozen? ⟨B, 1, none⟩ = false ∧ w.frozen? ⟨B, 2, none⟩ = false ∧ B < w.heap.size := by
 have hb := h.1.2.1
 exact ⟨⟨by rw [cell_at hb]; rfl, by rw [cell_at hb]; rfl, by rw [cell_at hb]; rfl⟩, free_at hb 0, free_at hb 1, free_at hb 2, h.1.2.2 B (by simp [blkC])⟩
theorem set3 {B : Nat} {a b c x y z : Value} {cs : List Comp} {w : World} (A : All (blkC B [a, b, c] 29 :: cs) w) : All (blkC B [x, y, z] 29 :: cs) (((w.setCell ⟨B, 0, none⟩ x).setCell ⟨B, 1, none⟩ y).setCell ⟨B, 2, none⟩ z) :=
 ((A.setBlk 0 x).setBlk 1 y).setBlk 2 z
theorem readDone_any {s : Value} {l : Ws} {cs : List Comp} {w : World} (A : All cs w) (V : Vars w) (h : Rt w s l) (hl : l.length * 16 ≤ 140737488355328) (hs : ∀ x ∈ l, x.length ≤ 140737488355328) :
   Calls Tryz.prog 171 #[s] w (RRPost (readD l) cs) := by
 obtain ⟨ao, c, rfl⟩ := h.form
 have A0 := hid (A.addBlk [.int .i64 0, .int .i64 0, .slice none 0 0] 29)
 have V0 := hid (V.later (ba w (.cells #[.int .i64 0, .int .i64 0, .slice none 0 0] 29)))
 have H0 := hid (h.later (ba w (.cells #[.int .i64 0, .int .i64 0, .slice none 0 0] 29)))
 have N1 := hid (numberAt_any (p := 1) V0.out H0.out (by omega) hs)
 by_cases h2 : l.length < 2
 · have e1 : readD l = .bad 162 := by unfold readD; rw [if_pos h2]
   rw [e1]
   have e2 : natA l 1 = .tuple #[.int .i64 0, .int .i64 162] := by unfold natA; rw [if_pos (by omega)]
   rw [e2] at N1
   clear e1 e2 A V h h2 hl hs V0 H0
   generalize l.length = n at *
   go_enter Tryz.func171, Tryz.ntmps171
   go_wp2_with (go_at_call 178; refine N1.out.mono ?_; rintro e w1 ⟨rfl, B1⟩; have A1 := hid (A0.out.later B1); have Z := zero_blk A1.out; obtain ⟨⟨z0, z1, z2⟩, f0, f1, f2, hlt⟩ := Z; clear B1)
   exact ret_cell3 rfl rfl rfl rfl (set3 A1.out).1.2.1 rfl ⟨_, rfl, All.addNil (set3 A1.out).tail⟩
 cases hn1 : numW (l.getD 1 []) with
 | none =>
   have e1 : readD l = .bad 163 := by unfold readD; rw [if_neg h2, hn1]
   rw [e1]
   have e2 : natA l 1 = .tuple #[.int .i64 0, .int .i64 163] := by unfold natA; rw [if_neg (by omega), hn1]
   rw [e2] at N1
   clear e1 e2 A V h h2 hl hs V0 H0 hn1
   generalize l.length = n at *
   go_enter Tryz.func171, Tryz.ntmps171
   go_wp2_with (go_at_call 178; refine N1.out.mono ?_; rintro e w1 ⟨rfl, B1⟩; have A1 := hid (A0.out.later B1); have Z := zero_blk A1.out; obtain ⟨⟨z0, z1, z2⟩, f0, f1, f2, hlt⟩ := Z; clear B1)
   exact ret_cell3 rfl rfl rfl rfl (set3 A1.out).1.2.1 rfl ⟨_, rfl, All.addNil (set3 A1.out).tail⟩
 | some z =>
   have e2 : natA l 1 = .tuple #[.int .i64 (z : Int), .int .i64 0] := by unfold natA; rw [if_neg (by omega), hn1]
   rw [e2] at N1
   have N2 : Hid (∀ W, Below (w.alloc (.cells #[.int .i64 0, .int .i64 0, .slice none 0 0] 29)).heap.size (w.alloc (.cells #[.int .i64 0, .int .i64 0, .slice none 0 0] 29)) W → Calls Tryz.prog 178 #[.slice ao l.length c, .int .i64 2] W fun e w' => e = .returned (natA l 2) ∧ Below W.heap.size W w') := hid (fun W hb => numberAt_any (p := 2) (V0.out.later hb) (H0.out.later hb) (by omega) hs)
   by_cases h3 : l.length < 3
   · have e1 : readD l = .bad 162 := by unfold readD; rw [if_neg h2, hn1]; simp only; rw [if_pos h3]
     rw [e1]
     have e3 : natA l 2 = .tuple #[.int .i64 0, .int .i64 162] := by unfold natA; rw [if_pos (by omega)]
     rw [e3] at N2
     clear e1 e2 e3 A V h h2 hl hs V0 H0 hn1 h3
     generalize l.length = n at *
     go_enter Tryz.func171, Tryz.ntmps171
     go_wp2_with (go_at_call 178; refine N1.out.mono ?_; rintro e w1 ⟨rfl, B1⟩; have A1 := hid (A0.out.later B1); have BB1 := hid B1; have Q2 := hid (N2.out w1 B1); clear B1; refine Hid.out ?_)
     refine hid ?_
     go_wp2_with (go_at_call 178; refine Q2.out.mono ?_; rintro e w2 ⟨rfl, B2⟩; have A2 := hid (A1.out.later B2); have Z := zero_blk A2.out; obtain ⟨⟨z0, z1, z2⟩, f0, f1, f2, hlt⟩ := Z; have BB2 := hid (BB1.out.trans (B2.mono BB1.out.size)); clear B2)
     exact ret_cell3 rfl rfl rfl rfl (set3 A2.out).1.2.1 rfl ⟨_, rfl, All.addNil (set3 A2.out).tail⟩
   cases hn2 : numW (l.getD 2 []) with
   | none =>
     have e1 : readD l = .bad 163 := by unfold readD; rw [if_neg h2, hn1]; simp only; rw [if_neg h3, hn2]
     rw [e1]
     have e3 : natA l 2 = .tuple #[.int .i64 0, .int .i64 163] := by unfold natA; rw [if_neg (by omega), hn2]
     rw [e3] at N2
     clear e1 e2 e3 A V h h2 hl hs V0 H0 hn1 h3 hn2
     generalize l.length = n at *
     go_enter Tryz.func171, Tryz.ntmps171
     go_wp2_with (go_at_call 178; refine N1.out.mono ?_; rintro e w1 ⟨rfl, B1⟩; have A1 := hid (A0.out.later B1); have BB1 := hid B1; have Q2 := hid (N2.out w1 B1); clear B1; refine Hid.out ?_)
     refine hid ?_
     go_wp2_with (go_at_call 178; refine Q2.out.mono ?_; rintro e w2 ⟨rfl, B2⟩; have A2 := hid (A1.out.later B2); have Z := zero_blk A2.out; obtain ⟨⟨z0, z1, z2⟩, f0, f1, f2, hlt⟩ := Z; have BB2 := hid (BB1.out.trans (B2.mono BB1.out.size)); clear B2)
     exact ret_cell3 rfl rfl rfl rfl (set3 A2.out).1.2.1 rfl ⟨_, rfl, All.addNil (set3 A2.out).tail⟩
   | some m =>
     have e3 : natA l 2 = .tuple #[.int .i64 (m : Int), .int .i64 0] := by unfold natA; rw [if_neg (by omega), hn2]
     rw [e3] at N2
     have hz := numW_le hn1
     have hm63 := numW_le hn2
     obtain ⟨aoc, cc, hcut, HC⟩ := cut_l (a := 3) (x := 3) H0.out (by omega) rfl
     have e4 : readD l = if l.length < m + 3 then .bad 162 else if chkW 0 z ((l.drop 3).take m) ≠ 0 then .bad (chkW 0 z ((l.drop 3).take m)) else ⟨0, z, (l.drop 3).take m, 3 + m, 0⟩ := by
       unfold readD; rw [if_neg h2, hn1]; simp only; rw [if_neg h3, hn2]
     rw [e4]
     have l3 : 3 ≤ l.length := by omega
     by_cases hm : l.length < m + 3
     · rw [if_pos hm]
       have hm' : ((l.length - 3 : Nat) : Int) < (m : Int) := by omega
       clear e4 e2 e3 A V h h2 hs V0 H0 hn1 h3 hn2 HC
       generalize l.length - 3 = nd at *
       generalize l.length = n at *
       go_enter Tryz.func171, Tryz.ntmps171
       go_wp2_with (go_at_call 178; refine N1.out.mono ?_; rintro e w1 ⟨rfl, B1⟩; have A1 := hid (A0.out.later B1); have BB1 := hid B1; have Q2 := hid (N2.out w1 B1); clear B1; refine Hid.out ?_)
       refine hid ?_
       go_wp2_with (go_at_call 178; refine Q2.out.mono ?_; rintro e w2 ⟨rfl, B2⟩; have A2 := hid (A1.out.later B2); have Z := zero_blk A2.out; obtain ⟨⟨z0, z1, z2⟩, f0, f1, f2, hlt⟩ := Z; have BB2 := hid (BB1.out.trans (B2.mono BB1.out.size)); clear B2)
       exact ret_cell3 rfl rfl rfl rfl (set3 A2.out).1.2.1 rfl ⟨_, rfl, All.addNil (set3 A2.out).tail⟩
     · rw [if_neg hm]
       have hm' : ¬ ((l.length - 3 : Nat) : Int) < (m : Int) := by omega
       have hdl : (l.drop 3).length = l.length - 3 := by simp
       obtain ⟨ao5, c5, hcut2, HC2⟩ := cut_h (b := m) (x := (m : Int)) HC (by rw [hdl]; omega) rfl
       have htl : ((l.drop 3).take m).length = m := by rw [List.length_take, hdl]; omega
       have CH : Hid (∀ W, Below (w.alloc (.cells #[.int .i64 0, .int .i64 0, .slice none 0 0] 29)).heap.size (w.alloc (.cells #[.int .i64 0, .int .i64 0, .slice none 0 0] 29)) W → Calls Tryz.prog 121 #[resV 0 (z : Int) (.slice ao5 m c5)] W fun e w' => e = .returned (.int .i64 (chkW 0 z ((l.drop 3).take m))) ∧ Below W.heap.size W w') := hid (fun W hb => check12 0 z (HC2.later hb) (by rw [htl]; omega))
       have CL : Hid (∀ W ds, Below (w.alloc (.cells #[.int .i64 0, .int .i64 0, .slice none 0 0] 29)).heap.size (w.alloc (.cells #[.int .i64 0, .int .i64 0, .slice none 0 0] 29)) W → All ds W → Calls Tryz.prog 179 #[.slice ao5 m c5] W fun e w' => ∃ v', e = .returned v' ∧ All (ownC 9 v' (txW ((l.drop 3).take m)) :: ds) w') := hid (fun W ds hb hA => clone_any hA (HC2.later hb) (by rw [htl]; omega))
       generalize hX : chkW 0 z ((l.drop 3).take m) = X at *
       clear e4 e2 e3 A V h h2 hs V0 H0 hn1 h3 hn2 HC hdl hX
       clear htl
       generalize (l.drop 3).take m = IT at *
       generalize l.length - 3 = nd at *
       generalize l.length = n at *
       by_cases hX0 : X ≠ 0
       · rw [if_pos hX0]
         have hX' : (X != 0) = true := by simpa using hX0
         clear hX0
         go_enter Tryz.func171, Tryz.ntmps171
         go_wp2_with (go_at_call 178; refine N1.out.mono ?_; rintro e w1 ⟨rfl, B1⟩; have A1 := hid (A0.out.later B1); have BB1 := hid B1; have Q2 := hid (N2.out w1 B1); clear B1; refine Hid.out ?_)
         refine hid ?_
         go_wp2_with (go_at_call 178; refine Q2.out.mono ?_; rintro e w2 ⟨rfl, B2⟩; have A2 := hid (A1.out.later B2); have BB2 := hid (BB1.out.trans (B2.mono BB1.out.size)); clear B2; refine Hid.out ?_)
         refine hid ?_
         have A3 := hid (A2.out.addBlk [.int .i64 0, .int .i64 (z : Int), .slice ao5 m c5] 29)
         have BB3 := hid (BB2.out.trans ((ba w2 (.cells #[.int .i64 0, .int .i64 (z : Int), .slice ao5 m c5] 29)).mono BB2.out.size))
         have Q3 := hid (CH.out _ BB3.out)
         go_wp2_with (go_at_call 121; refine Q3.out.mono ?_; rintro e w4 ⟨rfl, B4⟩; have A4 := hid (A3.out.later B4).swap; have Z := zero_blk A4.out; obtain ⟨⟨z0, z1, z2⟩, f0, f1, f2, hlt⟩ := Z; have BB4 := hid (BB3.out.trans (B4.mono BB3.out.size)); clear B4)
         exact ret_cell3 rfl rfl rfl rfl (set3 A4.out).1.2.1 rfl ⟨_, rfl, All.addNil (set3 A4.out).tail.tail⟩
       · rw [if_neg hX0]
         have hX' : X = 0 := Classical.byContradiction hX0
         subst hX'
         clear hX0
         go_enter Tryz.func171, Tryz.ntmps171
         go_wp2_with (go_at_call 178; refine N1.out.mono ?_; rintro e w1 ⟨rfl, B1⟩; have A1 := hid (A0.out.later B1); have BB1 := hid B1; have Q2 := hid (N2.out w1 B1); clear B1; refine Hid.out ?_)
         refine hid ?_
         go_wp2_with (go_at_call 178; refine Q2.out.mono ?_; rintro e w2 ⟨rfl, B2⟩; have A2 := hid (A1.out.later B2); have BB2 := hid (BB1.out.trans (B2.mono BB1.out.size)); clear B2; refine Hid.out ?_)
         refine hid ?_
         have A3 := hid (A2.out.addBlk [.int .i64 0, .int .i64 (z : Int), .slice ao5 m c5] 29)
         have BB3 := hid (BB2.out.trans ((ba w2 (.cells #[.int .i64 0, .int .i64 (z : Int), .slice ao5 m c5] 29)).mono BB2.out.size))
         have Q3 := hid (CH.out _ BB3.out)
         go_wp2_with (go_at_call 121; refine Q3.out.mono ?_; rintro e w4 ⟨rfl, B4⟩; have A4 := hid (A3.out.later B4); have BB4 := hid (BB3.out.trans (B4.mono BB3.out.size)); clear B4; refine Hid.out ?_)
         refine hid ?_
         have hb4 := A4.out.1.2.1
         have y2 : w4.cell? ⟨w2.heap.size, 2, none⟩ = some (.slice ao5 m c5) := by rw [cell_at hb4]; rfl
         have Q5 := hid (CL.out w4 _ BB4.out A4.out)
         clear hb4
         go_wp2_with (go_at_call 179; refine Q5.out.mono ?_; rintro e w5 ⟨v', rfl, A5⟩; have B5 := hid A5; clear A5; refine Hid.out ?_)
         refine hid ?_
         obtain ⟨ao6, c6, rfl⟩ := own9 B5.out
         have hb5 := B5.out.tail.1.2.1
         have u0 : w5.cell? ⟨w2.heap.size, 0, none⟩ = some (.int .i64 0) := by rw [cell_at hb5]; rfl
         have u1 : w5.cell? ⟨w2.heap.size, 1, none⟩ = some (.int .i64 (z : Int)) := by rw [cell_at hb5]; rfl
         have u2 : w5.cell? ⟨w2.heap.size, 2, none⟩ = some (.slice ao5 m c5) := by rw [cell_at hb5]; rfl
         have uf : w5.frozen? ⟨w2.heap.size, 2, none⟩ = false := free_at hb5 2
         have A6 := hid ((B5.out.perm (List.Perm.swap _ _ _)).setBlk 2 (.slice ao6 IT.length c6))
         have A7 := hid (A6.out.perm (perm3a _ _ _ _))
         obtain ⟨⟨z0, z1, z2⟩, f0, f1, f2, hlt⟩ := zero_blk A7.out
         have hne : w.heap.size ≠ w2.heap.size := by
           have := A2.out.1.2.2 w.heap.size (by simp [blkC])
           omega
         have A8 := hid (set3 (x := .int .i64 0) (y := .int .i64 (z : Int)) (z := .slice ao6 IT.length c6) A7.out)
         have hb6 := A6.out.1.2.1
         have g0 : (w5.setCell ⟨w2.heap.size, 2, none⟩ (.slice ao6 IT.length c6)).cell? ⟨w2.heap.size, 0, none⟩ = some (.int .i64 0) := by rw [cell_at hb6]; rfl
         have g1 : (w5.setCell ⟨w2.heap.size, 2, none⟩ (.slice ao6 IT.length c6)).cell? ⟨w2.heap.size, 1, none⟩ = some (.int .i64 (z : Int)) := by rw [cell_at hb6]; rfl
         have g2 : (w5.setCell ⟨w2.heap.size, 2, none⟩ (.slice ao6 IT.length c6)).cell? ⟨w2.heap.size, 2, none⟩ = some (.slice ao6 IT.length c6) := by rw [cell_at hb6]; rfl
         have wa : IntKind.i64.wrap (3 + (m : Int)) = 3 + m := by rw [IntKind.wrap_i64]; omega
         generalize hni : IT.length = ni at *
         clear hb5 hb6 B5 A6 A7 A4 A3 A2 A1 hni
         go_wp2
         have ek : ((3 + m : Nat) : Int) = 3 + (m : Int) := by omega
         exact ret_cell3 rfl rfl rfl rfl A8.out.1.2.1 rfl ⟨_, by show _ = Ending.returned (.tuple #[resV 0 (z : Int) _, .int .i64 ((3 + m : Nat) : Int), .int .i64 0]); rw [ek]; rfl, A8.out.tail.tail⟩
theorem readR_nil : readR [] = .bad 162 := rfl
theorem readR_cons {l : Ws} (h : l ≠ []) : readR l = match codeW (l.getD 0 []) with
   | none => .bad 163
   | some 0 => readD l
   | some (c + 1) => ⟨(c : Int) + 1, 0, [], 1, 0⟩ := by
 cases l with
 | nil => exact absurd rfl h
 | cons x r => rfl
theorem ReadResult_any {s : Value} {l : Ws} {cs : List Comp} {w : World} (A : All cs w) (V : Vars w) (D : Cd w) (h : Rt w s l) (hl : l.length * 16 ≤ 140737488355328) (hs : ∀ x ∈ l, x.length ≤ 140737488355328) :
   Calls Tryz.prog 149 #[s] w (RRPost (readR l) cs) := by
 obtain ⟨ao, c, rfl⟩ := h.form
 have A0 := hid (A.addBlk [.int .i64 0, .int .i64 0, .slice none 0 0] 29)
 obtain ⟨⟨z0, z1, z2⟩, f0, f1, f2, hlt⟩ := zero_blk A0.out
 by_cases h0 : l = []
 · subst h0
   rw [readR_nil]
   clear A V D h hl hs
   go_enter Tryz.func149, Tryz.ntmps149
   go_wp2
   exact ret_cell3 rfl rfl rfl rfl A0.out.1.2.1 rfl ⟨_, rfl, All.addNil A0.out.tail⟩
 have hpos : 0 < l.length := List.length_pos_iff.2 h0
 rw [readR_cons h0]
 have bw := ba w (.cells #[.int .i64 0, .int .i64 0, .slice none 0 0] 29)
 have n0 : ((l.length : Int) == 0) = false := by simp; exact h0
 obtain ⟨g, o, hg, hgl, hcell⟩ := (h.later bw).at (j := 0) hpos
 subst hg
 have C := hid (codeOf_any (x := l.getD 0 []) (D.later bw))
 rw [Nat.add_zero] at hcell
 have RD : Hid (Calls Tryz.prog 171 #[.slice (some ⟨g, o, none⟩) l.length c] (w.alloc (.cells #[.int .i64 0, .int .i64 0, .slice none 0 0] 29)) (RRPost (readD l) (blkC w.heap.size [.int .i64 0, .int .i64 0, .slice none 0 0] 29 :: cs))) := hid (readDone_any A0.out (V.later bw) (h.later bw) hl hs)
 unfold codeA at C
 cases hc : codeW (l.getD 0 []) with
 | none =>
   simp only
   rw [hc] at C
   simp only [Option.getD_none, Option.isSome_none] at C
   clear A V D h hs hc RD h0
   generalize ByteArray.mk (l.getD 0 []).toArray = X at *
   generalize l.length = n at *
   go_enter Tryz.func149, Tryz.ntmps149
   go_wp2_with (go_at_call 170; refine C.out.mono ?_; rintro e w1 ⟨rfl, hw1⟩; subst w1)
   exact ret_cell3 rfl rfl rfl rfl A0.out.1.2.1 rfl ⟨_, rfl, All.addNil A0.out.tail⟩
 | some k =>
   rw [hc] at C
   simp only [Option.getD_some, Option.isSome_some] at C
   cases k with
   | succ k =>
     simp only
     have nk : (((k + 1 : Nat) : Int) != 0) = true := by simp; omega
     have A0 := hid (A.addBlk [.int .i64 ((k : Int) + 1), .int .i64 0, .slice none 0 0] 29)
     have ek : ((k + 1 : Nat) : Int) = (k : Int) + 1 := by omega
     clear A V D h hs hc RD h0
     rw [ek] at C nk
     generalize ByteArray.mk (l.getD 0 []).toArray = X at *
     generalize l.length = n at *
     go_enter Tryz.func149, Tryz.ntmps149
     go_wp2_with (go_at_call 170; refine C.out.mono ?_; rintro e w1 ⟨rfl, hw1⟩; subst w1)
     exact ret_cell3 rfl rfl rfl rfl A0.out.1.2.1 rfl ⟨_, rfl, All.addNil A0.out.tail⟩
   | zero =>
     simp only
     have ek : ((0 : Nat) : Int) = 0 := rfl
     rw [ek] at C
     clear A V D h hs hc h0 ek
     generalize ByteArray.mk (l.getD 0 []).toArray = X at *
     generalize hR : readD l = R at *
     clear hR
     generalize l.length = n at *
     unfold RRPost at RD
     go_enter Tryz.func149, Tryz.ntmps149
     go_wp2_with (go_at_call 170; refine C.out.mono ?_; rintro e w1 ⟨rfl, hw1⟩; subst w1; refine Hid.out ?_)
     refine hid ?_
     go_wp2_with (go_at_call 171; refine RD.out.mono ?_; rintro e w2 ⟨v, rfl, A2⟩; have B2 := hid A2.swap; clear A2; refine Hid.out ?_)
     refine hid ?_
     obtain ⟨ao6, c6, rfl⟩ := own9 B2.out.swap
     obtain ⟨⟨y0, y1, y2⟩, e0, e1, e2, hlt2⟩ := zero_blk B2.out
     have B3 := hid (set3 (x := .int .i64 R.c) (y := .int .i64 R.n) (z := .slice ao6 R.items.length c6) B2.out)
     clear B2
     generalize R.items.length = ni at *
     go_wp2
     exact ret_cell3 rfl rfl rfl rfl B3.out.1.2.1 rfl ⟨_, rfl, B3.out.tail⟩
set_option linter.unusedVariables false
set_option maxRecDepth 1000000
set_option maxHeartbeats 1600000
def resW (c : Nat) (n : Nat) (l : Ws) : Ws := cdN.getD c [] :: (if c = 0 then Lib.decDigits n :: Lib.decDigits l.length :: l else [])
def resA (c n : Int) (l : Ws) : Ws := if chkW c n l ≠ 0 then [] else resW c.toNat n.toNat l
theorem chk_zero {c n : Int} {l : Ws} (h : chkW c n l = 0) : 0 ≤ c ∧ c ≤ 4 ∧ (c ≠ 0 → n = 0 ∧ l = []) ∧ 0 ≤ n ∧ n ≤ 1099511627776 ∧ l.length ≤ 8 ∧ ∀ x ∈ l, x.length ≤ 64 := by
 unfold chkW chkX at h
 split at h
 · simp at h
 rename_i h1
 split at h
 · simp at h
 rename_i h2
 split at h
 · simp at h
 rename_i h3
 split at h
 · simp at h
 rename_i h4
 split at h
 · simp at h
 rename_i h5
 rw [List.length_map] at h4
 refine ⟨by omega, by omega, fun hc => ?_, by omega, by omega, by omega, fun x hx => ?_⟩
 · refine ⟨Classical.byContradiction fun hn => h2 ⟨hc, Or.inl hn⟩, Classical.byContradiction fun hn => h2 ⟨hc, Or.inr (by simpa using hn)⟩⟩
 · apply Classical.byContradiction
   intro hn
   exact h5 ⟨mkB x, List.mem_map.2 ⟨x, hx, rfl⟩, by simp [ByteArray.size]; omega⟩
theorem blk3 {B : Nat} {x y z : Value} {cs : List Comp} {w : World} (h : All (blkC B [x, y, z] 29 :: cs) w) : w.cell? ⟨B, 0, none⟩ = some x ∧ w.cell? ⟨B, 1, none⟩ = some y ∧ w.cell? ⟨B, 2, none⟩ = some z := by
 have hb := h.1.2.1
 exact ⟨by rw [cell_at hb]; rfl, by rw [cell_at hb]; rfl, by rw [cell_at hb]; rfl⟩
theorem Result_any {c n : Int} {s : Value} {l : Ws} {cs : List Comp} {w : World} (A : All cs w) (hR : ∀ W, All cs W → Rt W s l) (hV : ∀ W, All cs W → Vars W) (hD : ∀ W, All cs W → Cd W) (hl : l.length ≤ 140737488355328) :
   Calls Tryz.prog 89 #[resV c n s] w (WRPost (resA c n l) (chkW c n l) cs) := by
 obtain ⟨ao, cc, rfl⟩ := (hR w A).form
 have A0 := hid (A.addBlk [.int .i64 c, .int .i64 n, .slice ao l.length cc] 29)
 have CK := hid (check12 c n (hR _ A0.out.tail) hl)
 by_cases hX : chkW c n l ≠ 0
 · have e1 : resA c n l = [] := by unfold resA; rw [if_pos hX]
   rw [e1]
   have hX' : (chkW c n l != 0) = true := by simpa using hX
   clear e1 hX hR hV hD A hl
   generalize chkW c n l = XX at *
   generalize l.length = nl at *
   go_enter Tryz.func89, Tryz.ntmps89
   go_wp2_with (go_at_call 121; refine CK.out.mono ?_; rintro e w1 ⟨rfl, B1⟩; have A1 := hid (A0.out.later B1); clear B1)
   go_ret2
   exact ⟨_, rfl, All.addNil A1.out.tail⟩
 have hX0 : chkW c n l = 0 := Classical.byContradiction hX
 have e1 : resA c n l = resW c.toNat n.toNat l := by unfold resA; rw [if_neg hX]
 obtain ⟨hc0, hc4, hcn, hn0, hn1, hl8, hx64⟩ := chk_zero hX0
 rw [e1]
 rw [hX0] at CK ⊢
 clear hX hX0 e1 A hl hx64
 by_cases hz : c = 0
 · subst hz
   obtain ⟨m, rfl⟩ := Int.eq_ofNat_of_zero_le hn0
   have e2 : resW (0 : Int).toNat (m : Int).toNat l = cdN.getD 0 [] :: Lib.decDigits m :: Lib.decDigits l.length :: l := by rw [Int.toNat_natCast]; rfl
   rw [e2]
   clear e2 hc0 hc4 hcn hn0
   have IT : Hid (∀ (k : Nat) ds W, k ≤ 1099511627776 → All ds W → Vars W → Calls Tryz.prog 46 #[.int .i64 (k : Int)] W fun e w' => e = .returned (.string ⟨(Lib.decDigits k).toArray⟩) ∧ All ds w') := hid (fun k ds W hk hA hVw => by
     have := Itoa_any (v := (k : Int)) hVw (by omega) (by omega)
     rw [itoa_nat] at this
     exact this.mono fun e w' ⟨he, hb⟩ => ⟨he, hA.later hb⟩)
   have C14 : Hid (∀ W, All (blkC w.heap.size [.int .i64 0, .int .i64 (m : Int), .slice ao l.length cc] 29 :: cs) W → Calls Tryz.prog 46 #[.int .i64 (l.length : Int)] W.drew fun e w' => e = .returned (.string ⟨(Lib.decDigits l.length).toArray⟩) ∧ w'.cell? ⟨w.heap.size, 2, none⟩ = some (.slice ao l.length cc) ∧ Hid (Calls Tryz.prog 120 #[.string ⟨(Lib.decDigits l.length).toArray⟩, .slice ao l.length cc] w' fun e w2 => ∃ v', e = .returned v' ∧ All (ownC 9 v' (txW (Lib.decDigits l.length :: l)) :: blkC w.heap.size [.int .i64 0, .int .i64 (m : Int), .slice ao l.length cc] 29 :: cs) w2)) := hid (fun W hA => by
     refine (IT.out l.length _ W.drew (by omega) hA.drew (hV _ hA.drew.tail)).mono ?_
     rintro e w' ⟨rfl, hA'⟩
     exact ⟨rfl, (blk3 hA').2.2, hid (row2 hA' (hR _ hA'.tail) (by omega))⟩)
   have C8 : Hid (∀ v2 W, All (ownC 9 v2 (txW (Lib.decDigits l.length :: l)) :: blkC w.heap.size [.int .i64 0, .int .i64 (m : Int), .slice ao l.length cc] 29 :: cs) W → Calls Tryz.prog 46 #[.int .i64 (m : Int)] W fun e w' => e = .returned (.string ⟨(Lib.decDigits m).toArray⟩) ∧ Hid (Calls Tryz.prog 120 #[.string ⟨(Lib.decDigits m).toArray⟩, v2] w' fun e w2 => ∃ v', e = .returned v' ∧ Hid (Calls Tryz.prog 120 #[.string ⟨(cdN.getD 0 []).toArray⟩, v'] w2 fun e w3 => ∃ v'', e = .returned v'' ∧ All (ownC 9 v'' (txW (cdN.getD 0 [] :: Lib.decDigits m :: Lib.decDigits l.length :: l)) :: cs) w3))) := hid (fun v2 W hA => by
     refine (IT.out m _ W (by omega) hA (hV _ hA.tail.tail)).mono ?_
     rintro e w' ⟨rfl, hA'⟩
     refine ⟨rfl, hid ?_⟩
     refine (row2 hA' (rt_own hA') (by simp; omega)).mono ?_
     rintro e w2 ⟨v', rfl, hA2⟩
     refine ⟨v', rfl, hid ?_⟩
     refine (row2 hA2 (rt_own hA2) (by simp; omega)).mono ?_
     rintro e w3 ⟨v'', rfl, hA3⟩
     exact ⟨v'', rfl, hA3.del.del.del⟩)
   have CD : Hid (∀ W, All cs W → W.cell? ⟨3, 0, none⟩ = some (.string ⟨(cdN.getD 0 []).toArray⟩)) := hid (fun W hA => (hD W hA).2 0 (by omega))
   clear hR hV hD IT
   generalize (cdN.getD 0 [] :: Lib.decDigits m :: Lib.decDigits l.length :: l) = RES at *
   generalize ByteArray.mk (Lib.decDigits l.length).toArray = XL at *
   generalize ByteArray.mk (Lib.decDigits m).toArray = XM at *
   generalize ByteArray.mk (cdN.getD 0 []).toArray = X0 at *
   generalize (Lib.decDigits l.length :: l) = RES1 at *
   generalize l.length = nl at *
   go_enter Tryz.func89, Tryz.ntmps89
   go_wp2_with (go_at_call 121; refine CK.out.mono ?_; rintro e w1 ⟨rfl, B1⟩; have A1 := hid (A0.out.later B1); clear B1; refine Hid.out ?_)
   refine hid ?_
   obtain ⟨y0, y1, y2⟩ := blk3 A1.out
   have d0 := CD.out _ A1.out.tail
   have Q14 := hid (C14.out _ A1.out)
   go_wp2
   go_region_law (go_simp; first | (go_at_call 46; refine Q14.out.mono ?_; rintro e w2 ⟨rfl, y2', Q13⟩) | (go_at_call 120; refine Q13.out.mono ?_; rintro e w3 ⟨v3, rfl, A3⟩))
   all_goals
     have B3 := hid A3
     clear A3
     obtain ⟨z0, z1, z2⟩ := blk3 B3.out.tail
     have P14 := hid (C8.out _ _ B3.out)
     clear C8 C14 Q14 Q13 A1
     go_wp2_with (go_at_call 46; refine P14.out.mono ?_; rintro e w4 ⟨rfl, P13⟩; refine Hid.out ?_)
     refine hid ?_
     go_wp2_with (go_at_call 120; refine P13.out.mono ?_; rintro e w5 ⟨v5, rfl, P13b⟩; refine Hid.out ?_)
     refine hid ?_
     go_wp2_with (go_at_call 120; refine P13b.out.mono ?_; rintro e w6 ⟨v6, rfl, A6⟩; have B6 := hid A6; clear A6; refine Hid.out ?_)
     refine hid ?_
     go_wp2
     go_ret2
     exact ⟨_, rfl, B6.out⟩
 · obtain ⟨rfl, rfl⟩ := hcn hz
   obtain ⟨k, rfl⟩ := Int.eq_ofNat_of_zero_le hc0
   have e2 : resW (k : Int).toNat (0 : Int).toNat [] = [cdN.getD k []] := by unfold resW; rw [Int.toNat_natCast, if_neg (by omega)]
   rw [e2]
   clear e2 hn0 hn1 hl8 hc0 hcn
   have CD : Hid (∀ W, All cs W → W.cell? ⟨3, k, none⟩ = some (.string ⟨(cdN.getD k []).toArray⟩)) := hid (fun W hA => (hD W hA).2 k (by omega))
   have RW : Hid (∀ W, All (blkC w.heap.size [.int .i64 (k : Int), .int .i64 0, .slice ao 0 cc] 29 :: cs) W → Calls Tryz.prog 120 #[.string ⟨(cdN.getD k []).toArray⟩, .slice none 0 0] W fun e w3 => ∃ v'', e = .returned v'' ∧ All (ownC 9 v'' (txW [cdN.getD k []]) :: cs) w3) := hid (fun W hA => by
     refine (row2 hA (rt_nil W) (by simp)).mono ?_
     rintro e w3 ⟨v'', rfl, hA3⟩
     exact ⟨v'', rfl, hA3.del⟩)
   have nz : ((k : Int) != 0) = true := by simpa using hz
   have hk5 : (k : Int) < 5 := by omega
   clear hR hV hD hz
   generalize [cdN.getD k []] = RES at *
   generalize ByteArray.mk (cdN.getD k []).toArray = X0 at *
   simp only [List.length_nil] at *
   go_enter Tryz.func89, Tryz.ntmps89
   go_wp2_with (go_at_call 121; refine CK.out.mono ?_; rintro e w1 ⟨rfl, B1⟩; have A1 := hid (A0.out.later B1); clear B1; refine Hid.out ?_)
   refine hid ?_
   obtain ⟨y0, y1, y2⟩ := blk3 A1.out
   have d0 := CD.out _ A1.out.tail
   have Q13 := hid (RW.out _ A1.out)
   go_wp2_with (go_at_call 120; refine Q13.out.mono ?_; rintro e w5 ⟨v5, rfl, A5⟩; have B5 := hid A5; clear A5; refine Hid.out ?_)
   refine hid ?_
   go_wp2
   go_ret2
   exact ⟨_, rfl, B5.out⟩
set_option linter.unusedVariables false
theorem findW_some {x : List UInt8} : ∀ {l : Ws} {k j : Nat}, findW x k l = some j → k ≤ j ∧ j < k + l.length ∧ l.getD (j - k) [] = x
 | [], k, j, h => by simp [findW] at h
 | y :: r, k, j, h => by
   rw [findW] at h
   split at h
   · rename_i hy
     simp only [Option.some.injEq] at h
     subst h
     exact ⟨Nat.le_refl _, by simp, by simp [hy]⟩
   · obtain ⟨h1, h2, h3⟩ := findW_some h
     refine ⟨by omega, by simp only [List.length_cons]; omega, ?_⟩
     have : j - k = (j - (k + 1)) + 1 := by omega
     rw [this, List.getD_cons_succ]
     exact h3
theorem codeW_some {x : List UInt8} {j : Nat} (h : codeW x = some j) : j < 5 ∧ cdN.getD j [] = x := by
 obtain ⟨h1, h2, h3⟩ := findW_some h
 exact ⟨by simpa [cdN] using h2, by simpa using h3⟩
theorem codeW_at {c : Nat} (h : c < 5) : codeW (cdN.getD c []) = some c := by
 obtain rfl | rfl | rfl | rfl | rfl : c = 0 ∨ c = 1 ∨ c = 2 ∨ c = 3 ∨ c = 4 := by omega
 all_goals rfl
theorem chk_small {c : Int} (h0 : 0 ≤ c) (h4 : c ≤ 4) : chkW c 0 [] = 0 := by
 unfold chkW chkX
 rw [if_neg (by omega), if_neg (by simp), if_neg (by omega), if_neg (by simp), if_neg (by simp)]
theorem readR_ok {l : Ws} (h : (readR l).e = 0) : chkW (readR l).c (readR l).n (readR l).items = 0 ∧ resA (readR l).c (readR l).n (readR l).items = l.take (readR l).k ∧ (readR l).k ≤ l.length := by
 cases l with
 | nil => simp [readR, RR.bad] at h
 | cons x r =>
   cases hc : codeW x with
   | none =>
     have e : readR (x :: r) = .bad 163 := by unfold readR; simp only [hc]
     rw [e] at h; simp [RR.bad] at h
   | some j =>
     obtain ⟨hj, hx⟩ := codeW_some hc
     cases j with
     | succ j =>
       have e : readR (x :: r) = ⟨(j : Int) + 1, 0, [], 1, 0⟩ := by unfold readR; simp only [hc]
       rw [e]
       have hk : chkW ((j : Int) + 1) 0 [] = 0 := chk_small (by omega) (by omega)
       refine ⟨hk, ?_, by simp⟩
       simp only
       unfold resA
       rw [hk, if_neg (by simp)]
       have : ((j : Int) + 1).toNat = j + 1 := by omega
       rw [this]
       unfold resW
       rw [if_neg (by omega), hx]
       simp
     | zero =>
       have e : readR (x :: r) = readD (x :: r) := by unfold readR; simp only [hc]
       rw [e] at h ⊢
       unfold readD at h ⊢
       by_cases h2 : (x :: r).length < 2
       · rw [if_pos h2] at h; simp [RR.bad] at h
       rw [if_neg h2] at h ⊢
       cases hn : numW ((x :: r).getD 1 []) with
       | none => rw [hn] at h; simp [RR.bad] at h
       | some n =>
         rw [hn] at h
         simp only at h ⊢
         by_cases h3 : (x :: r).length < 3
         · rw [if_pos h3] at h; simp [RR.bad] at h
         rw [if_neg h3] at h ⊢
         cases hm : numW ((x :: r).getD 2 []) with
         | none => rw [hm] at h; simp [RR.bad] at h
         | some m =>
           rw [hm] at h
           simp only at h ⊢
           by_cases h4 : (x :: r).length < m + 3
           · rw [if_pos h4] at h; simp [RR.bad] at h
           rw [if_neg h4] at h ⊢
           by_cases h5 : chkW 0 n (((x :: r).drop 3).take m) ≠ 0
           · rw [if_pos h5] at h; exact absurd h h5
           rw [if_neg h5] at h ⊢
           have h6 : chkW 0 n (((x :: r).drop 3).take m) = 0 := Classical.byContradiction h5
           refine ⟨h6, ?_, by simp only; omega⟩
           simp only
           unfold resA
           rw [h6, if_neg (by simp), Int.toNat_natCast]
           match r, h3 with
           | [], h3 => simp at h3
           | [_], h3 => simp at h3
           | b :: c :: r, _ =>
             simp only [List.getD_cons_succ, List.getD_cons_zero] at hn hm
             have hl : m ≤ r.length := by simp only [List.length_cons] at h4; omega
             show resW 0 n (r.take m) = _
             unfold resW
             rw [if_pos rfl, hx, List.length_take, Nat.min_eq_left hl, ← numW_spelt hn, ← numW_spelt hm]
             have : 3 + m = m + 1 + 1 + 1 := by omega
             rw [this]
             simp
theorem readR_back {c n : Int} {l b : Ws} (h : chkW c n l = 0) : readR (resA c n l ++ b) = ⟨c, n, l, (resA c n l).length, 0⟩ := by
 obtain ⟨hc0, hc4, hcn, hn0, hn1, hl8, hx64⟩ := chk_zero h
 obtain ⟨k, rfl⟩ := Int.eq_ofNat_of_zero_le hc0
 obtain ⟨m, rfl⟩ := Int.eq_ofNat_of_zero_le hn0
 unfold resA
 rw [h, if_neg (by simp), Int.toNat_natCast, Int.toNat_natCast]
 cases k with
 | succ k =>
   obtain ⟨hm0, rfl⟩ := hcn (by omega)
   obtain rfl : m = 0 := by omega
   unfold resW readR
   rw [if_neg (by omega), List.cons_append]
   simp only
   rw [codeW_at (by omega)]
   simp
 | zero =>
   unfold resW readR
   rw [if_pos rfl, List.cons_append]
   simp only
   rw [codeW_at (by omega)]
   simp only [List.cons_append]
   unfold readD
   rw [if_neg (by simp)]
   simp only [List.getD_cons_succ, List.getD_cons_zero]
   rw [numW_digits (by omega), numW_digits (by omega)]
   simp only
   rw [if_neg (by simp), if_neg (by simp <;> omega)]
   have e : (((cdN.getD 0 [] :: Lib.decDigits m :: Lib.decDigits l.length :: (l ++ b)).drop 3).take l.length) = l := by simp
   rw [e]
   have h' : chkW 0 (m : Int) l = 0 := h
   rw [h', if_neg (by simp)]
   simp; omega
set_option linter.unusedVariables false
set_option maxRecDepth 1000000
set_option maxHeartbeats 3200000
def stN : Ws := [[], [110, 111, 114, 109, 97, 108], [99, 104, 97, 110, 103, 101], [114, 101, 99, 111, 118, 101, 114, 105, 110, 103]]
def kdN : Ws := [[], [114, 101, 102, 117, 115, 101, 100], [115, 117, 98, 109, 105, 116, 116, 101, 100], [97, 115, 107, 101, 100], [97, 110, 115, 119, 101, 114, 101, 100], [116, 111, 108, 100], [114, 97, 110], [115, 116, 97, 110, 100, 115], [108, 111, 115, 116], [100, 111, 119, 110], [117, 112], [115, 104, 101, 101, 116]]
def Stt (w : World) : Prop := 1 < w.heap.size ∧ ∀ k, k < 4 → w.cell? ⟨1, k, none⟩ = some (.string ⟨(stN.getD k []).toArray⟩)
def Kdt (w : World) : Prop := 0 < w.heap.size ∧ ∀ k, k < 12 → w.cell? ⟨0, k, none⟩ = some (.string ⟨(kdN.getD k []).toArray⟩)
theorem Stt.later {w w' : World} (h : Stt w) (hb : Below w.heap.size w w') : Stt w' := ⟨Nat.lt_of_lt_of_le h.1 hb.size, fun k hk => cell_under hb h.1 (h.2 k hk)⟩
theorem Kdt.later {w w' : World} (h : Kdt w) (hb : Below w.heap.size w w') : Kdt w' := ⟨Nat.lt_of_lt_of_le h.1 hb.size, fun k hk => cell_under hb h.1 (h.2 k hk)⟩
structure En (w : World) : Prop where
 v : Vars w
 t : Tab w
 f : Wf w
 c : Cd w
 s : Stt w
 k : Kdt w
theorem En.later {w w' : World} (h : En w) (hb : Below w.heap.size w w') : En w' := ⟨h.v.later hb, h.t.below hb, h.f.later hb, h.c.later hb, h.s.later hb, h.k.later hb⟩
def boolV (C : List Value) (o : Nat) : Bool := match C[o]? with
 | some (.bool b) => b
 | _ => false
def strV (C : List Value) (o : Nat) : List UInt8 := match C[o]? with
 | some (.string b) => b.data.toList
 | _ => []
def TpW1 (C : List Value) (items : Ws) (data : List UInt8) (cs : List Comp) : Th → Prop
 | .int o => ∃ v, C[o]? = some (.int .i64 v) ∧ 0 ≤ v ∧ v ≤ 9223372036854775807
 | .cod o => ∃ v, C[o]? = some (.int .i64 v) ∧ 0 ≤ v ∧ v ≤ 9223372036854775807
 | .sta o => ∃ k : Nat, C[o]? = some (.int .i64 (k : Int)) ∧ k < 4
 | .fre o => ∃ b, C[o]? = some (.bool b)
 | .dat o => data.length ≤ 10000000 ∧ ∃ a n c, C[o]? = some (.slice a n c) ∧ ∀ W, All cs W → BRd W (.slice a n c) data
 | .op o => ∃ k nm tx n m, C[o]? = some (.int .i64 k) ∧ C[o + 1]? = some (.string ⟨List.toArray nm⟩) ∧ C[o + 2]? = some (.string ⟨List.toArray tx⟩) ∧ C[o + 3]? = some (.int .i64 n) ∧ C[o + 4]? = some (.int .i64 m)
 | .res o => items.length ≤ 140737488355328 ∧ ∃ c n a k p, C[o]? = some (.int .i64 c) ∧ C[o + 1]? = some (.int .i64 n) ∧ C[o + 2]? = some (.slice a k p) ∧ ∀ W, All cs W → Rt W (.slice a k p) items
 | _ => True
def wd1 (C : List Value) (items : Ws) (data : List UInt8) : Th → Ws
 | .int o => [Lib.itoa (valI C o)]
 | .cod o => [Lib.itoa (valI C o)]
 | .sta o => [stN.getD (valI C o).toNat []]
 | .fre o => [flagW (boolV C o)]
 | .dat o => [hexW data]
 | .op o => opA (valI C o) (strV C (o + 1)) (strV C (o + 2)) (valI C (o + 3)) (valI C (o + 4))
 | .res o => resA (valI C o) (valI C (o + 1)) items
 | _ => []
def er1 (C : List Value) (items : Ws) : Th → Int
 | .op o => chkO (valI C o) (strV C (o + 1)) (strV C (o + 2)) (valI C (o + 3)) (valI C (o + 4))
 | .res o => chkW (valI C o) (valI C (o + 1)) items
 | _ => 0
theorem boolV_at {C : List Value} {o : Nat} {b : Bool} (h : C[o]? = some (.bool b)) : boolV C o = b := by unfold boolV; rw [h]
theorem strV_at {C : List Value} {o : Nat} {x : List UInt8} (h : C[o]? = some (.string ⟨x.toArray⟩)) : strV C o = x := by unfold strV; rw [h]
theorem alloc_size (w : World) (o : Obj) : (w.alloc o).heap.size = w.heap.size + 1 := by simp
theorem thingWords_flat {P : Nat} {t : Th} {C : List Value} {items : Ws} {data : List UInt8} {cs : List Comp} {w : World} (hE : ∀ W, All cs W → En W) (hP : blkC P C 36 ∈ cs) (hf : flatT t = true) (hT : TpW1 C items data cs t) (A : All cs w) :
   Calls Tryz.prog 55 #[thV P t] w (WRPost (wd1 C items data t) (er1 C items t) cs) := by
 have HA := hid A
 have HE := hid hE
 have HPC := hid hP
 clear A hE hP
 cases t with
 | int o =>
   obtain ⟨v, hv, h0, h1⟩ := hT
   have hc := cell_in (P := P) HA.out HPC.out hv
   have EQ : Hid (wd1 C items data (.int o) = [Lib.itoa v]) := hid (by simp only [wd1, valI_at hv])
   simp only [thV]
   rw [EQ.out, show er1 C items (.int o) = 0 from rfl]
   clear hv EQ
   have IT := hid (Itoa_any (HE.out _ HA.out).v h0 h1)
   generalize hX : Lib.itoa v = X at *
   clear hX
   have ta0 : ∀ W : World, (Instr.typeAssert (.iface 97 (.pointer (some ⟨P, o, none⟩))) 20 97 true).run Tryz.prog W = .ok (.tuple #[.pointer (some ⟨P, o, none⟩), .bool true]) W := fun W => by kernel_rfl
   go_enter Tryz.func55, Tryz.ntmps55
   go_wp2_with (go_at_call 46; refine IT.out.mono ?_; rintro e w2 ⟨rfl, B2⟩; have K1 := hid (HA.out.later B2); clear B2)
   go_ret2
   exact ⟨_, rfl, own_new K1.out [X] (by simp)⟩
 | cod o =>
   obtain ⟨v, hv, h0, h1⟩ := hT
   have hc := cell_in (P := P) HA.out HPC.out hv
   have EQ : Hid (wd1 C items data (.cod o) = [Lib.itoa v]) := hid (by simp only [wd1, valI_at hv])
   simp only [thV]
   rw [EQ.out, show er1 C items (.cod o) = 0 from rfl]
   clear hv EQ
   have IT := hid (Itoa_any (HE.out _ HA.out).v h0 h1)
   generalize hX : Lib.itoa v = X at *
   clear hX
   have ta0 : ∀ W : World, (Instr.typeAssert (.iface 98 (.pointer (some ⟨P, o, none⟩))) 20 97 true).run Tryz.prog W = .ok (.tuple #[.pointer none, .bool false]) W := fun W => by kernel_rfl
   have ta1 : ∀ W : World, (Instr.typeAssert (.iface 98 (.pointer (some ⟨P, o, none⟩))) 20 98 true).run Tryz.prog W = .ok (.tuple #[.pointer (some ⟨P, o, none⟩), .bool true]) W := fun W => by kernel_rfl
   go_enter Tryz.func55, Tryz.ntmps55
   go_wp2_with (go_at_call 46; refine IT.out.mono ?_; rintro e w2 ⟨rfl, B2⟩; have K1 := hid (HA.out.later B2); clear B2)
   go_ret2
   exact ⟨_, rfl, own_new K1.out [X] (by simp)⟩
 | fre o =>
   obtain ⟨v, hv⟩ := hT
   have hc := cell_in (P := P) HA.out HPC.out hv
   have EQ : Hid (wd1 C items data (.fre o) = [flagW v]) := hid (by simp only [wd1, boolV_at hv])
   simp only [thV]
   rw [EQ.out, show er1 C items (.fre o) = 0 from rfl]
   clear hv EQ
   have IT := hid (flag_any v w)
   generalize hX : flagW v = X at *
   clear hX
   have ta0 : ∀ W : World, (Instr.typeAssert (.iface 101 (.pointer (some ⟨P, o, none⟩))) 20 97 true).run Tryz.prog W = .ok (.tuple #[.pointer none, .bool false]) W := fun W => by kernel_rfl
   have ta1 : ∀ W : World, (Instr.typeAssert (.iface 101 (.pointer (some ⟨P, o, none⟩))) 20 98 true).run Tryz.prog W = .ok (.tuple #[.pointer none, .bool false]) W := fun W => by kernel_rfl
   have ta2 : ∀ W : World, (Instr.typeAssert (.iface 101 (.pointer (some ⟨P, o, none⟩))) 20 101 true).run Tryz.prog W = .ok (.tuple #[.pointer (some ⟨P, o, none⟩), .bool true]) W := fun W => by kernel_rfl
   go_enter Tryz.func55, Tryz.ntmps55
   go_wp2_with (go_at_call 86; refine IT.out.mono ?_; rintro e w2 ⟨rfl, rfl⟩)
   go_ret2
   exact ⟨_, rfl, own_new HA.out [X] (by simp)⟩
 | dat o =>
   obtain ⟨hd, a1, n1, c1, hv, hB⟩ := hT
   have hc := cell_in (P := P) HA.out HPC.out hv
   have EQ : Hid (wd1 C items data (.dat o) = [hexW data]) := hid (rfl)
   simp only [thV]
   rw [EQ.out, show er1 C items (.dat o) = 0 from rfl]
   clear hv EQ
   have IT := hid (dataWord_any (hB _ HA.out) hd)
   clear hB hd
   generalize hX : hexW data = X at *
   clear hX
   have ta0 : ∀ W : World, (Instr.typeAssert (.iface 141 (.pointer (some ⟨P, o, none⟩))) 20 97 true).run Tryz.prog W = .ok (.tuple #[.pointer none, .bool false]) W := fun W => by kernel_rfl
   have ta1 : ∀ W : World, (Instr.typeAssert (.iface 141 (.pointer (some ⟨P, o, none⟩))) 20 98 true).run Tryz.prog W = .ok (.tuple #[.pointer none, .bool false]) W := fun W => by kernel_rfl
   have ta2 : ∀ W : World, (Instr.typeAssert (.iface 141 (.pointer (some ⟨P, o, none⟩))) 20 101 true).run Tryz.prog W = .ok (.tuple #[.pointer none, .bool false]) W := fun W => by kernel_rfl
   have ta3 : ∀ W : World, (Instr.typeAssert (.iface 141 (.pointer (some ⟨P, o, none⟩))) 20 140 true).run Tryz.prog W = .ok (.tuple #[.agg #[.pointer none], .bool false]) W := fun W => by kernel_rfl
   have ta4 : ∀ W : World, (Instr.typeAssert (.iface 141 (.pointer (some ⟨P, o, none⟩))) 20 141 true).run Tryz.prog W = .ok (.tuple #[.pointer (some ⟨P, o, none⟩), .bool true]) W := fun W => by kernel_rfl
   go_enter Tryz.func55, Tryz.ntmps55
   go_wp2_with (go_at_call 87; refine IT.out.mono ?_; rintro e w2 ⟨rfl, B2⟩; have K1 := hid (HA.out.later B2); clear B2)
   go_ret2
   exact ⟨_, rfl, own_new K1.out [X] (by simp)⟩
 | sta o =>
   obtain ⟨k, hv, hk⟩ := hT
   have HAA := hid (HA.out.alloc (.cells #[.pointer (some ⟨P, o, none⟩)] 140))
   have hc := cell_in (P := P) HAA.out HPC.out hv
   have hst := (HE.out _ HAA.out).s.2 k hk
   have hnew : (w.alloc (.cells #[.pointer (some ⟨P, o, none⟩)] 140)).cell? ⟨w.heap.size, 0, none⟩ = some (.pointer (some ⟨P, o, none⟩)) := by rw [cell_at (heap_alloc_new w _)]; rfl
   have EQ : Hid (wd1 C items data (.sta o) = [stN.getD k []]) := hid (by simp only [wd1, valI_at hv, Int.toNat_natCast])
   have I140 : Hid ((Tryz.prog.info? 140).map (·.size) = some (#[Value.pointer (some ⟨P, o, none⟩)] : Array Value).size) := hid (by kernel_rfl)
   simp only [thV]
   rw [EQ.out, show er1 C items (.sta o) = 0 from rfl]
   have hk' : (k : Int) < 4 := by omega
   clear hv EQ hk
   generalize hX : stN.getD k [] = X at *
   clear hX
   have ta0 : ∀ W : World, (Instr.typeAssert (.iface 140 (.agg #[.pointer (some ⟨P, o, none⟩)])) 20 97 true).run Tryz.prog W = .ok (.tuple #[.pointer none, .bool false]) W := fun W => by kernel_rfl
   have ta1 : ∀ W : World, (Instr.typeAssert (.iface 140 (.agg #[.pointer (some ⟨P, o, none⟩)])) 20 98 true).run Tryz.prog W = .ok (.tuple #[.pointer none, .bool false]) W := fun W => by kernel_rfl
   have ta2 : ∀ W : World, (Instr.typeAssert (.iface 140 (.agg #[.pointer (some ⟨P, o, none⟩)])) 20 101 true).run Tryz.prog W = .ok (.tuple #[.pointer none, .bool false]) W := fun W => by kernel_rfl
   have ta3 : ∀ W : World, (Instr.typeAssert (.iface 140 (.agg #[.pointer (some ⟨P, o, none⟩)])) 20 140 true).run Tryz.prog W = .ok (.tuple #[.agg #[.pointer (some ⟨P, o, none⟩)], .bool true]) W := fun W => by kernel_rfl
   go_enter Tryz.func55, Tryz.ntmps55
   go_wp2_with (refine wpList_store_row rfl 140 _ _ rfl w.heap.size #[.pointer (some ⟨P, o, none⟩)] rfl rfl 140 _ (heap_alloc_new w _) I140.out rfl rfl ?_; rw [World.setRow_alloc_new])
   go_ret2
   exact ⟨_, rfl, by have := own_new HAA.out [X] (by simp); rw [alloc_size] at this; exact this⟩
 | op o =>
   obtain ⟨k, nm, tx, n, m, h0, h1, h2, h3, h4⟩ := hT
   have RG : Hid (w.rangeAt P o [.int .i64 k, .string ⟨nm.toArray⟩, .string ⟨tx.toArray⟩, .int .i64 n, .int .i64 m]) := hid fun q u hu => by
     match q with
     | 0 => cases hu; exact cell_in HA.out HPC.out h0
     | 1 => cases hu; exact cell_in HA.out HPC.out h1
     | 2 => cases hu; exact cell_in HA.out HPC.out h2
     | 3 => cases hu; exact cell_in HA.out HPC.out h3
     | 4 => cases hu; exact cell_in HA.out HPC.out h4
     | q + 5 => simp at hu
   have I2 : Hid ((Tryz.prog.info? 24).map (·.size) = some ([.int .i64 k, .string ⟨nm.toArray⟩, .string ⟨tx.toArray⟩, .int .i64 n, .int .i64 m] : List Value).length) := hid (by kernel_rfl)
   have CL := hid (Op_any (k := k) (n := n) (m := m) (nm := nm) (tx := tx) HA.out (fun W hW => (HE.out W hW).v) (fun W hW => (HE.out W hW).t) (fun W hW => (HE.out W hW).f))
   have EQ : Hid (wd1 C items data (.op o) = opA k nm tx n m ∧ er1 C items (.op o) = chkO k nm tx n m) := hid ⟨by simp only [wd1, valI_at h0, strV_at h1, strV_at h2, valI_at h3, valI_at h4], by simp only [er1, valI_at h0, strV_at h1, strV_at h2, valI_at h3, valI_at h4]⟩
   simp only [thV]
   rw [EQ.out.1, EQ.out.2]
   clear h0 h1 h2 h3 h4 EQ
   have ta0 : ∀ W : World, (Instr.typeAssert (.iface 99 (.pointer (some ⟨P, o, none⟩))) 20 97 true).run Tryz.prog W = .ok (.tuple #[.pointer none, .bool false]) W := fun W => by kernel_rfl
   have ta1 : ∀ W : World, (Instr.typeAssert (.iface 99 (.pointer (some ⟨P, o, none⟩))) 20 98 true).run Tryz.prog W = .ok (.tuple #[.pointer none, .bool false]) W := fun W => by kernel_rfl
   have ta2 : ∀ W : World, (Instr.typeAssert (.iface 99 (.pointer (some ⟨P, o, none⟩))) 20 101 true).run Tryz.prog W = .ok (.tuple #[.pointer none, .bool false]) W := fun W => by kernel_rfl
   have ta3 : ∀ W : World, (Instr.typeAssert (.iface 99 (.pointer (some ⟨P, o, none⟩))) 20 140 true).run Tryz.prog W = .ok (.tuple #[.agg #[.pointer none], .bool false]) W := fun W => by kernel_rfl
   have ta4 : ∀ W : World, (Instr.typeAssert (.iface 99 (.pointer (some ⟨P, o, none⟩))) 20 141 true).run Tryz.prog W = .ok (.tuple #[.pointer none, .bool false]) W := fun W => by kernel_rfl
   have ta5 : ∀ W : World, (Instr.typeAssert (.iface 99 (.pointer (some ⟨P, o, none⟩))) 20 99 true).run Tryz.prog W = .ok (.tuple #[.pointer (some ⟨P, o, none⟩), .bool true]) W := fun W => by kernel_rfl
   go_enter Tryz.func55, Tryz.ntmps55
   go_wp2_with (first | (refine wpList_load_mid rfl 24 _ rfl P o rfl [.int .i64 k, .string ⟨nm.toArray⟩, .string ⟨tx.toArray⟩, .int .i64 n, .int .i64 m] _ RG.out Tryz.underlying24 rfl I2.out ?_) | (go_at_call 88; refine CL.out.mono ?_; rintro e w2 ⟨v2, rfl, K2⟩; have K3 := hid K2; clear K2))
   go_ret2
   exact ⟨_, rfl, K3.out⟩
 | res o =>
   obtain ⟨hl, c, n, a, k, p, h0, h1, h2, hR⟩ := hT
   have RG : Hid (w.rangeAt P o [.int .i64 c, .int .i64 n, .slice a k p]) := hid fun q u hu => by
     match q with
     | 0 => cases hu; exact cell_in HA.out HPC.out h0
     | 1 => cases hu; exact cell_in HA.out HPC.out h1
     | 2 => cases hu; exact cell_in HA.out HPC.out h2
     | q + 3 => simp at hu
   have I2 : Hid ((Tryz.prog.info? 29).map (·.size) = some ([.int .i64 c, .int .i64 n, .slice a k p] : List Value).length) := hid (by kernel_rfl)
   have CL := hid (Result_any (c := c) (n := n) HA.out hR (fun W hW => (HE.out W hW).v) (fun W hW => (HE.out W hW).c) hl)
   have EQ : Hid (wd1 C items data (.res o) = resA c n items ∧ er1 C items (.res o) = chkW c n items) := hid ⟨by simp only [wd1, valI_at h0, valI_at h1], by simp only [er1, valI_at h0, valI_at h1]⟩
   simp only [thV]
   rw [EQ.out.1, EQ.out.2]
   clear h0 h1 h2 EQ
   have ta0 : ∀ W : World, (Instr.typeAssert (.iface 100 (.pointer (some ⟨P, o, none⟩))) 20 97 true).run Tryz.prog W = .ok (.tuple #[.pointer none, .bool false]) W := fun W => by kernel_rfl
   have ta1 : ∀ W : World, (Instr.typeAssert (.iface 100 (.pointer (some ⟨P, o, none⟩))) 20 98 true).run Tryz.prog W = .ok (.tuple #[.pointer none, .bool false]) W := fun W => by kernel_rfl
   have ta2 : ∀ W : World, (Instr.typeAssert (.iface 100 (.pointer (some ⟨P, o, none⟩))) 20 101 true).run Tryz.prog W = .ok (.tuple #[.pointer none, .bool false]) W := fun W => by kernel_rfl
   have ta3 : ∀ W : World, (Instr.typeAssert (.iface 100 (.pointer (some ⟨P, o, none⟩))) 20 140 true).run Tryz.prog W = .ok (.tuple #[.agg #[.pointer none], .bool false]) W := fun W => by kernel_rfl
   have ta4 : ∀ W : World, (Instr.typeAssert (.iface 100 (.pointer (some ⟨P, o, none⟩))) 20 141 true).run Tryz.prog W = .ok (.tuple #[.pointer none, .bool false]) W := fun W => by kernel_rfl
   have ta5 : ∀ W : World, (Instr.typeAssert (.iface 100 (.pointer (some ⟨P, o, none⟩))) 20 99 true).run Tryz.prog W = .ok (.tuple #[.pointer none, .bool false]) W := fun W => by kernel_rfl
   have ta6 : ∀ W : World, (Instr.typeAssert (.iface 100 (.pointer (some ⟨P, o, none⟩))) 20 100 true).run Tryz.prog W = .ok (.tuple #[.pointer (some ⟨P, o, none⟩), .bool true]) W := fun W => by kernel_rfl
   go_enter Tryz.func55, Tryz.ntmps55
   go_wp2_with (first | (refine wpList_load_mid rfl 29 _ rfl P o rfl [.int .i64 c, .int .i64 n, .slice a k p] _ RG.out Tryz.underlying29 rfl I2.out ?_) | (go_at_call 89; refine CL.out.mono ?_; rintro e w2 ⟨v2, rfl, K2⟩; have K3 := hid K2; clear K2))
   go_ret2
   exact ⟨_, rfl, K3.out⟩
 | look o => exact absurd hf (by simp [flatT])
 | sht o => exact absurd hf (by simp [flatT])
end Go.Proofs.YtfeppannfcbakaaGreatDoor

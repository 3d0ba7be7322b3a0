import Derived.Test.YtfeppannfcbakaaGreatDoorJ10
import Derived.Test.YtfeppannfcbakaaGreatDoorRC3
namespace Go.Proofs.YtfeppannfcbakaaGreatDoor
open Go.RowKit
set_option linter.unusedVariables false

abbrev resV (c n : Int) (s : Value) : Value := .agg #[.int .i64 c, .int .i64 n, s]

/-- What CheckResult tells. -/
def chkX (c n : Int) (l : List ByteArray) : Int :=
  if c < 0 ∨ 4 < c then 50 else if c ≠ 0 ∧ (n ≠ 0 ∨ l ≠ []) then 55 else if n < 0 ∨ 1099511627776 < n then 53
  else if 8 < l.length then 54 else if ∃ t ∈ l, 64 < t.size then 52 else 0

set_option maxHeartbeats 1600000 in
set_option maxRecDepth 1000000 in
theorem checkX_any {w : World} (c n : Int) {s : Value} {l : List ByteArray} (h : Txts w s l) (hl : l.length ≤ 9223372036854775807) : Calls Tryz.prog 121 #[resV c n s] w fun e w' => e = .returned (.int .i64 (chkX c n l)) ∧ Below w.heap.size w w' := by
  obtain ⟨ao, cp, rfl⟩ := h.form
  have HT := hid h
  have HH : Hid (∀ o, ∃ w1, w1 = w.alloc o) := fun o => ⟨_, rfl⟩
  clear h
  by_cases c0 : c < 0
  · have F : Hid (chkX c n l = 50) := by simp [chkX, c0, Hid]
    have e0 : decide (c < 0) = true := by simpa using c0
    go_enter Tryz.func121, Tryz.ntmps121
    go_wp2
    go_ret
    exact ⟨by rw [F.out]; rfl, ba _ _⟩
  have e0 : decide (c < 0) = false := by simpa using c0
  by_cases c4 : 4 < c
  · have F : Hid (chkX c n l = 50) := by simp [chkX, c4, Hid]
    have e4 : decide (4 < c) = true := by simpa using c4
    go_enter Tryz.func121, Tryz.ntmps121
    go_wp2
    go_ret
    exact ⟨by rw [F.out]; rfl, ba _ _⟩
  have e4 : decide (4 < c) = false := by simpa using c4
  by_cases hcn : c ≠ 0 ∧ (n ≠ 0 ∨ l ≠ [])
  · have F : Hid (chkX c n l = 55) := by unfold chkX; rw [if_neg (by omega), if_pos hcn]; exact rfl
    have ec : (c != 0) = true := by simpa using hcn.1
    by_cases hn : n = 0
    · have hl0 : 0 < l.length := by
        rcases hcn.2 with h | h
        · exact absurd hn h
        · exact List.length_pos_iff.2 h
      subst hn
      have eL : decide (0 < (l.length : Int)) = true := by simpa using hl0
      clear hcn
      go_enter Tryz.func121, Tryz.ntmps121
      go_wp2
      go_ret
      exact ⟨by rw [F.out]; rfl, ba _ _⟩
    · have en : (n != 0) = true := by simpa using hn
      clear hcn
      go_enter Tryz.func121, Tryz.ntmps121
      go_wp2
      go_ret
      exact ⟨by rw [F.out]; rfl, ba _ _⟩
  have G : Hid (c = 0 ∨ (c ≠ 0 ∧ n = 0 ∧ l = [])) := by
    rcases Classical.em (c = 0) with h | h
    · exact Or.inl h
    · refine Or.inr ⟨h, ?_, ?_⟩
      · exact Classical.byContradiction fun hh => hcn ⟨h, Or.inl hh⟩
      · exact Classical.byContradiction fun hh => hcn ⟨h, Or.inr hh⟩
  have F1 : Hid (chkX c n l = if n < 0 ∨ 1099511627776 < n then 53 else if 8 < l.length then 54 else if ∃ t ∈ l, 64 < t.size then 52 else 0) := by unfold chkX; rw [if_neg (by omega), if_neg hcn]; exact rfl
  clear hcn
  rcases G.out with hc | ⟨hc, hn0, hl0⟩
  · subst hc
    clear G e0 e4 c0 c4
    by_cases n0 : n < 0
    · have F : Hid (chkX 0 n l = 53) := by rw [F1.out]; simp [n0, Hid]
      have en : decide (n < 0) = true := by simpa using n0
      clear F1
      go_enter Tryz.func121, Tryz.ntmps121
      go_wp2
      go_ret
      exact ⟨by rw [F.out]; rfl, ba _ _⟩
    have en : decide (n < 0) = false := by simpa using n0
    by_cases n1 : 1099511627776 < n
    · have F : Hid (chkX 0 n l = 53) := by rw [F1.out]; simp [n1, Hid]
      have en1 : decide (1099511627776 < n) = true := by simpa using n1
      clear F1
      go_enter Tryz.func121, Tryz.ntmps121
      go_wp2
      go_ret
      exact ⟨by rw [F.out]; rfl, ba _ _⟩
    have en1 : decide (1099511627776 < n) = false := by simpa using n1
    by_cases l8 : 8 < l.length
    · have F : Hid (chkX 0 n l = 54) := by rw [F1.out]; simp [l8, Hid]; omega
      have e8 : decide ((8 : Int) < (l.length : Int)) = true := by simp; omega
      clear F1
      go_enter Tryz.func121, Tryz.ntmps121
      go_wp2
      go_ret
      exact ⟨by rw [F.out]; rfl, ba _ _⟩
    have e8 : decide ((8 : Int) < (l.length : Int)) = false := by simp; omega
    have F2 : Hid (chkX 0 n l = if ∃ t ∈ l, 64 < t.size then 52 else 0) := by rw [F1.out, if_neg (by omega), if_neg l8]; exact rfl
    clear F1
    go_enter Tryz.func121, Tryz.ntmps121
    go_wp2
    go_loopw [46] (fun iv wr => ∃ k : Nat, iv = .int .i64 (k : Int) ∧ k ≤ l.length ∧ Hid (∀ j (hj : j < k) (hl : j < l.length), l[j].size ≤ 64) ∧ wr = w.alloc (.cells #[.int .i64 0, .int .i64 n, .slice ao l.length cp] 29)) (fun iv _ => l.length - (intOf iv).toNat)
    case atStart => exact ⟨0, rfl, Nat.zero_le _, fun j hj => absurd hj (by omega), rfl⟩
    case round =>
      obtain ⟨k, rfl, hk, hbef, rfl⟩ := hrel
      by_cases hlt : k < l.length
      · obtain ⟨g, o, ea, hg, hcell⟩ := (HT.out.alloc (.cells #[.int .i64 0, .int .i64 n, .slice ao l.length cp] 29)).at hlt
        subst ea
        have el : decide ((k : Int) < (l.length : Int)) = true := by simpa using hlt
        by_cases h64 : 64 < (l[k]'hlt).size
        · have e64 : decide ((64 : Int) < ((l[k]'hlt).size : Int)) = true := by simp; omega
          go_wp2
          go_ret
          exact ⟨by rw [F2.out, if_pos ⟨_, List.getElem_mem hlt, h64⟩]; rfl, ba _ _⟩
        · have e64 : decide ((64 : Int) < ((l[k]'hlt).size : Int)) = false := by simp; omega
          go_wp2
          go_roundw
          case rel => exact ⟨k + 1, by go_num, by omega, fun j hj hl => by rcases Nat.lt_succ_iff_lt_or_eq.1 hj with h | h; exact hbef.out j h hl; subst h; omega, trivial⟩
          case measure => simp [intOf]; omega
      · have el : decide ((k : Int) < (l.length : Int)) = false := by simp; omega
        go_wp2
        go_ret
        exact ⟨by rw [F2.out, if_neg]; rfl; rintro ⟨t, ht, h64⟩; obtain ⟨j, hj, rfl⟩ := List.getElem_of_mem ht; have := hbef.out j (by omega) hj; omega, ba _ _⟩
  · subst hn0
    subst hl0
    have F2 : Hid (chkX c 0 [] = 0) := by rw [F1.out]; simp [Hid]
    have ec : (c != 0) = true := by simpa using hc
    clear F1 G
    simp only [List.length_nil] at HT ⊢
    go_enter Tryz.func121, Tryz.ntmps121
    go_wp2
    go_loopw [46] (fun iv wr => iv = .int .i64 0 ∧ wr = w.alloc (.cells #[.int .i64 c, .int .i64 0, .slice ao 0 cp] 29)) (fun iv _ => 0)
    case atStart => exact ⟨rfl, rfl⟩
    case round =>
      obtain ⟨rfl, rfl⟩ := hrel
      go_wp2
      go_ret
      exact ⟨by rw [F2.out]; rfl, ba _ _⟩

set_option maxHeartbeats 1600000 in
set_option maxRecDepth 1000000 in
theorem checkX_ref {w : World} (c n : Int) {s : Value} {l : List ByteArray} (h : Txts w s l) (hl : l.length ≤ 9223372036854775807) : Calls Tryz.prog 100 #[resV c n s] w fun e w' => e = .returned (.int .i64 (chkX c n l)) ∧ Below w.heap.size w w' := by
  obtain ⟨ao, cp, rfl⟩ := h.form
  have HT := hid h
  have HH : Hid (∀ o, ∃ w1, w1 = w.alloc o) := fun o => ⟨_, rfl⟩
  clear h
  by_cases c0 : c < 0
  · have F : Hid (chkX c n l = 50) := by simp [chkX, c0, Hid]
    have e0 : decide (c < 0) = true := by simpa using c0
    go_enter Tryz.func100, Tryz.ntmps100
    go_wp2
    go_ret
    exact ⟨by rw [F.out]; rfl, ba _ _⟩
  have e0 : decide (c < 0) = false := by simpa using c0
  by_cases c4 : 4 < c
  · have F : Hid (chkX c n l = 50) := by simp [chkX, c4, Hid]
    have e4 : decide (4 < c) = true := by simpa using c4
    go_enter Tryz.func100, Tryz.ntmps100
    go_wp2
    go_ret
    exact ⟨by rw [F.out]; rfl, ba _ _⟩
  have e4 : decide (4 < c) = false := by simpa using c4
  by_cases hcn : c ≠ 0 ∧ (n ≠ 0 ∨ l ≠ [])
  · have F : Hid (chkX c n l = 55) := by unfold chkX; rw [if_neg (by omega), if_pos hcn]; exact rfl
    have ec : (c != 0) = true := by simpa using hcn.1
    by_cases hn : n = 0
    · have hl0 : 0 < l.length := by
        rcases hcn.2 with h | h
        · exact absurd hn h
        · exact List.length_pos_iff.2 h
      subst hn
      have eL : decide (0 < (l.length : Int)) = true := by simpa using hl0
      clear hcn
      go_enter Tryz.func100, Tryz.ntmps100
      go_wp2
      go_ret
      exact ⟨by rw [F.out]; rfl, ba _ _⟩
    · have en : (n != 0) = true := by simpa using hn
      clear hcn
      go_enter Tryz.func100, Tryz.ntmps100
      go_wp2
      go_ret
      exact ⟨by rw [F.out]; rfl, ba _ _⟩
  have G : Hid (c = 0 ∨ (c ≠ 0 ∧ n = 0 ∧ l = [])) := by
    rcases Classical.em (c = 0) with h | h
    · exact Or.inl h
    · refine Or.inr ⟨h, ?_, ?_⟩
      · exact Classical.byContradiction fun hh => hcn ⟨h, Or.inl hh⟩
      · exact Classical.byContradiction fun hh => hcn ⟨h, Or.inr hh⟩
  have F1 : Hid (chkX c n l = if n < 0 ∨ 1099511627776 < n then 53 else if 8 < l.length then 54 else if ∃ t ∈ l, 64 < t.size then 52 else 0) := by unfold chkX; rw [if_neg (by omega), if_neg hcn]; exact rfl
  clear hcn
  rcases G.out with hc | ⟨hc, hn0, hl0⟩
  · subst hc
    clear G e0 e4 c0 c4
    by_cases n0 : n < 0
    · have F : Hid (chkX 0 n l = 53) := by rw [F1.out]; simp [n0, Hid]
      have en : decide (n < 0) = true := by simpa using n0
      clear F1
      go_enter Tryz.func100, Tryz.ntmps100
      go_wp2
      go_ret
      exact ⟨by rw [F.out]; rfl, ba _ _⟩
    have en : decide (n < 0) = false := by simpa using n0
    by_cases n1 : 1099511627776 < n
    · have F : Hid (chkX 0 n l = 53) := by rw [F1.out]; simp [n1, Hid]
      have en1 : decide (1099511627776 < n) = true := by simpa using n1
      clear F1
      go_enter Tryz.func100, Tryz.ntmps100
      go_wp2
      go_ret
      exact ⟨by rw [F.out]; rfl, ba _ _⟩
    have en1 : decide (1099511627776 < n) = false := by simpa using n1
    by_cases l8 : 8 < l.length
    · have F : Hid (chkX 0 n l = 54) := by rw [F1.out]; simp [l8, Hid]; omega
      have e8 : decide ((8 : Int) < (l.length : Int)) = true := by simp; omega
      clear F1
      go_enter Tryz.func100, Tryz.ntmps100
      go_wp2
      go_ret
      exact ⟨by rw [F.out]; rfl, ba _ _⟩
    have e8 : decide ((8 : Int) < (l.length : Int)) = false := by simp; omega
    have F2 : Hid (chkX 0 n l = if ∃ t ∈ l, 64 < t.size then 52 else 0) := by rw [F1.out, if_neg (by omega), if_neg l8]; exact rfl
    clear F1
    go_enter Tryz.func100, Tryz.ntmps100
    go_wp2
    go_loopw [3] (fun iv wr => ∃ k : Nat, iv = .int .i64 (k : Int) ∧ k ≤ l.length ∧ Hid (∀ j (hj : j < k) (hl : j < l.length), l[j].size ≤ 64) ∧ wr = w.alloc (.cells #[.int .i64 0, .int .i64 n, .slice ao l.length cp] 29)) (fun iv _ => l.length - (intOf iv).toNat)
    case atStart => exact ⟨0, rfl, Nat.zero_le _, fun j hj => absurd hj (by omega), rfl⟩
    case round =>
      obtain ⟨k, rfl, hk, hbef, rfl⟩ := hrel
      by_cases hlt : k < l.length
      · obtain ⟨g, o, ea, hg, hcell⟩ := (HT.out.alloc (.cells #[.int .i64 0, .int .i64 n, .slice ao l.length cp] 29)).at hlt
        subst ea
        have el : decide ((k : Int) < (l.length : Int)) = true := by simpa using hlt
        by_cases h64 : 64 < (l[k]'hlt).size
        · have e64 : decide ((64 : Int) < ((l[k]'hlt).size : Int)) = true := by simp; omega
          go_wp2
          go_ret
          exact ⟨by rw [F2.out, if_pos ⟨_, List.getElem_mem hlt, h64⟩]; rfl, ba _ _⟩
        · have e64 : decide ((64 : Int) < ((l[k]'hlt).size : Int)) = false := by simp; omega
          go_wp2
          go_roundw
          case rel => exact ⟨k + 1, by go_num, by omega, fun j hj hl => by rcases Nat.lt_succ_iff_lt_or_eq.1 hj with h | h; exact hbef.out j h hl; subst h; omega, trivial⟩
          case measure => simp [intOf]; omega
      · have el : decide ((k : Int) < (l.length : Int)) = false := by simp; omega
        go_wp2
        go_ret
        exact ⟨by rw [F2.out, if_neg]; rfl; rintro ⟨t, ht, h64⟩; obtain ⟨j, hj, rfl⟩ := List.getElem_of_mem ht; have := hbef.out j (by omega) hj; omega, ba _ _⟩
  · subst hn0
    subst hl0
    have F2 : Hid (chkX c 0 [] = 0) := by rw [F1.out]; simp [Hid]
    have ec : (c != 0) = true := by simpa using hc
    clear F1 G
    simp only [List.length_nil] at HT ⊢
    go_enter Tryz.func100, Tryz.ntmps100
    go_wp2
    go_loopw [3] (fun iv wr => iv = .int .i64 0 ∧ wr = w.alloc (.cells #[.int .i64 c, .int .i64 0, .slice ao 0 cp] 29)) (fun iv _ => 0)
    case atStart => exact ⟨rfl, rfl⟩
    case round =>
      obtain ⟨rfl, rfl⟩ := hrel
      go_wp2
      go_ret
      exact ⟨by rw [F2.out]; rfl, ba _ _⟩
end Go.Proofs.YtfeppannfcbakaaGreatDoor

namespace Go.Proofs.YtfeppannfcbakaaGreatDoor
open Go.RowKit
set_option linter.unusedVariables false

def cdN : Ws := [[100, 111, 110, 101], [110, 111, 110, 101], [116, 104, 101, 114, 101], [102, 117, 108, 108], [101, 109, 112, 116, 121]]
/-- The codes' table. -/
def Cd (w : World) : Prop := 3 < w.heap.size ∧ ∀ k, k < 5 → w.cell? ⟨3, k, none⟩ = some (.string ⟨(cdN.getD k []).toArray⟩)
theorem Cd.later {w w' : World} (h : Cd w) (hb : Below w.heap.size w w') : Cd w' := ⟨Nat.lt_of_lt_of_le h.1 hb.size, fun k hk => cell_under hb h.1 (h.2 k hk)⟩
abbrev mkB (x : List UInt8) : ByteArray := ⟨x.toArray⟩
theorem Rt.txts {w : World} {s : Value} {l : Ws} (h : Rt w s l) : Txts w s (l.map mkB) := by
  obtain ⟨ao, c, e, hc, hx⟩ := h
  refine ⟨ao, c, by rw [e, List.length_map], by rw [List.length_map]; exact hc, ?_⟩
  rcases hx with rfl | ⟨g, o, ea, hg, hcell⟩
  · exact Or.inl rfl
  · refine Or.inr ⟨g, o, ea, hg, fun j hj => ?_⟩
    rw [List.length_map] at hj
    rw [hcell j hj, List.getElem_map]
/-- What CheckResult tells. -/
def chkW (c n : Int) (l : Ws) : Int := chkX c n (l.map mkB)
theorem check12 {w : World} (c n : Int) {s : Value} {l : Ws} (h : Rt w s l) (hl : l.length ≤ 140737488355328) : Calls Tryz.prog 121 #[resV c n s] w fun e w' => e = .returned (.int .i64 (chkW c n l)) ∧ Below w.heap.size w w' := checkX_any c n h.txts (by rw [List.length_map]; omega)
theorem check15 {w : World} (c n : Int) {s : Value} {l : Ws} (h : Rt w s l) (hl : l.length ≤ 140737488355328) : Calls Tryz.prog 100 #[resV c n s] w fun e w' => e = .returned (.int .i64 (chkW c n l)) ∧ Below w.heap.size w w' := checkX_ref c n h.txts (by rw [List.length_map]; omega)

set_option maxRecDepth 1000000 in
theorem clone_any {v : Value} {l : Ws} {cs : List Comp} {w : World} (A : All cs w) (h : Rt w v l) (hl : l.length * 16 ≤ 140737488355328) :
    Calls Tryz.prog 179 #[v] w fun e w' => ∃ v', e = .returned v' ∧ All (ownC 9 v' (txW l) :: cs) w' := by
  obtain ⟨ao0, c0, rfl⟩ := h.form
  obtain ⟨ao, c, w', hr, A2⟩ := appR (l := []) (own_new A [] (by simp)) (h.later (ba w _)) (by simpa using hl)
  rw [List.length_nil, Nat.zero_add, List.nil_append] at A2
  rw [List.length_nil, Nat.zero_add] at hr
  cases ao0 with
  | none =>
    have hl0 : l = [] := by
      obtain ⟨ao', c', e, _, hx⟩ := h
      rcases hx with rfl | ⟨g, o, rfl, _⟩
      · rfl
      · simp at e
    subst hl0
    have D := hid (All.addNil (e := 9) A)
    have he := fun w => Lib.run_eql_slice_nil (P := Tryz.prog) w 27 9 none 0 c0 0 0 Tryz.underlying27
    clear hr A2 A h hl
    go_enter Tryz.func179, Tryz.ntmps179
    go_wp2
    go_ret
    exact ⟨_, rfl, D.out⟩
  | some a =>
    have R : Hid ((Builtin.append_ #[27, 27] 27 #[.slice (some ⟨w.heap.size, 0, none⟩) 0 0, .slice (some a) l.length c0]).run Tryz.prog (w.alloc (.cells #[] 9)) = .ok (.slice ao l.length c) w') := hid hr
    have B := hid A2
    have he := fun w => Lib.run_eql_slice_nil (P := Tryz.prog) w 27 9 (some a) l.length c0 0 0 Tryz.underlying27
    clear hr A2 A h hl
    generalize hn : l.length = n at *
    clear hn
    go_enter Tryz.func179, Tryz.ntmps179
    go_wp2_with (at_builtin; refine wpList_append_run rfl _ _ 27 rfl _ _ _ _ rfl rfl R.out ?_)
    go_ret
    exact ⟨_, rfl, B.out⟩

set_option maxRecDepth 1000000 in
theorem codes_any {w : World} : Calls Tryz.prog 101 #[] w fun e w' => e = .returned (.slice (some ⟨w.heap.size, 0, none⟩) 5 5) ∧ w' = w.alloc (.cells (txW cdN).toArray 9) := by
  have e1 : (txW cdN).toArray = #[.string ⟨#[100, 111, 110, 101]⟩, .string ⟨#[110, 111, 110, 101]⟩, .string ⟨#[116, 104, 101, 114, 101]⟩, .string ⟨#[102, 117, 108, 108]⟩, .string ⟨#[101, 109, 112, 116, 121]⟩] := rfl
  rw [e1]
  clear e1
  go_enter Tryz.func101, Tryz.ntmps101
  go_wp2
  go_ret
  exact ⟨rfl, rfl⟩
theorem rt_codes (w : World) : Rt (w.alloc (.cells (txW cdN).toArray 9)) (.slice (some ⟨w.heap.size, 0, none⟩) 5 5) cdN := rt_own (own_new (All.came w) cdN (by simp [cdN]))
end Go.Proofs.YtfeppannfcbakaaGreatDoor

namespace Go.Proofs.YtfeppannfcbakaaGreatDoor
open Go.RowKit
set_option linter.unusedVariables false

/-- A word's code. -/
def codeW (x : List UInt8) : Option Nat := findW x 0 cdN
def codeA (x : List UInt8) : Value := .tuple #[.int .i64 (((codeW x).getD 0 : Nat) : Int), .bool (codeW x).isSome]

set_option maxHeartbeats 1600000 in
set_option maxRecDepth 1000000 in
theorem codeOf_any {x : List UInt8} {w : World} (C : Cd w) : Calls Tryz.prog 170 #[.string ⟨x.toArray⟩] w fun e w' => e = .returned (codeA x) ∧ w' = w := by
  have c0 := C.2 0 (by omega)
  have c1 := C.2 1 (by omega)
  have c2 := C.2 2 (by omega)
  have c3 := C.2 3 (by omega)
  have c4 := C.2 4 (by omega)
  have q0 := ba_ne (x := cdN.getD 0 []) (y := x)
  have q1 := ba_ne (x := cdN.getD 1 []) (y := x)
  have q2 := ba_ne (x := cdN.getD 2 []) (y := x)
  have q3 := ba_ne (x := cdN.getD 3 []) (y := x)
  have q4 := ba_ne (x := cdN.getD 4 []) (y := x)
  have F : Hid (codeW x = if cdN.getD 0 [] = x then some 0 else if cdN.getD 1 [] = x then some 1 else if cdN.getD 2 [] = x then some 2 else if cdN.getD 3 [] = x then some 3 else if cdN.getD 4 [] = x then some 4 else none) := hid (by
    unfold codeW cdN
    simp only [findW]
    rfl)
  have key : ∀ D, codeW x = D → Hid (codeA x = .tuple #[.int .i64 ((D.getD 0 : Nat) : Int), .bool D.isSome]) := fun D h => hid (by unfold codeA; rw [h])
  generalize codeA x = AN at *
  clear C
  generalize hd0 : cdN.getD 0 [] = d0 at *
  generalize hd1 : cdN.getD 1 [] = d1 at *
  generalize hd2 : cdN.getD 2 [] = d2 at *
  generalize hd3 : cdN.getD 3 [] = d3 at *
  generalize hd4 : cdN.getD 4 [] = d4 at *
  clear hd0 hd1 hd2 hd3 hd4
  generalize ByteArray.mk x.toArray = X at *
  generalize ByteArray.mk d0.toArray = D0 at *
  generalize ByteArray.mk d1.toArray = D1 at *
  generalize ByteArray.mk d2.toArray = D2 at *
  generalize ByteArray.mk d3.toArray = D3 at *
  generalize ByteArray.mk d4.toArray = D4 at *
  have ix0 : ∀ W, (Instr.index 175 (.agg #[.string D0, .string D1, .string D2, .string D3, .string D4]) (.int .i64 0)).run Tryz.prog W = .ok (.string D0) W := fun W => by kernel_rfl
  have ix1 : ∀ W, (Instr.index 175 (.agg #[.string D0, .string D1, .string D2, .string D3, .string D4]) (.int .i64 1)).run Tryz.prog W = .ok (.string D1) W := fun W => by kernel_rfl
  have ix2 : ∀ W, (Instr.index 175 (.agg #[.string D0, .string D1, .string D2, .string D3, .string D4]) (.int .i64 2)).run Tryz.prog W = .ok (.string D2) W := fun W => by kernel_rfl
  have ix3 : ∀ W, (Instr.index 175 (.agg #[.string D0, .string D1, .string D2, .string D3, .string D4]) (.int .i64 3)).run Tryz.prog W = .ok (.string D3) W := fun W => by kernel_rfl
  have ix4 : ∀ W, (Instr.index 175 (.agg #[.string D0, .string D1, .string D2, .string D3, .string D4]) (.int .i64 4)).run Tryz.prog W = .ok (.string D4) W := fun W => by kernel_rfl
  go_enter Tryz.func170, Tryz.ntmps170
  go_wp2
  go_loopw [7] (fun iv wr => ∃ k : Int, 0 ≤ k ∧ k ≤ 5 ∧ iv = .int .i64 k ∧ wr = w ∧ Hid ((0 < k → d0 ≠ x) ∧ (1 < k → d1 ≠ x) ∧ (2 < k → d2 ≠ x) ∧ (3 < k → d3 ≠ x) ∧ (4 < k → d4 ≠ x))) (fun iv _ => 5 - (intOf iv).toNat)
  case atStart => exact ⟨0, by omega, by omega, rfl, rfl, hid ⟨fun h => absurd h (by omega), fun h => absurd h (by omega), fun h => absurd h (by omega), fun h => absurd h (by omega), fun h => absurd h (by omega)⟩⟩
  case round =>
    obtain ⟨k, hk0, hk5, rfl, rfl, hn⟩ := hrel
    obtain rfl | rfl | rfl | rfl | rfl | rfl : k = 0 ∨ k = 1 ∨ k = 2 ∨ k = 3 ∨ k = 4 ∨ k = 5 := by omega
    · clear hk0 hk5
      by_cases e0 : d0 = x
      · have H := key (some 0) (by rw [F.out, if_pos e0])
        rw [decide_eq_true e0] at q0
        clear key F hn e0
        go_wp2
        go_ret2
        exact ⟨by rw [H.out]; rfl, rfl⟩
      · rw [decide_eq_false e0] at q0
        have nx : Hid ((0 < (0 : Int) + 1 → d0 ≠ x) ∧ (1 < (0 : Int) + 1 → d1 ≠ x) ∧ (2 < (0 : Int) + 1 → d2 ≠ x) ∧ (3 < (0 : Int) + 1 → d3 ≠ x) ∧ (4 < (0 : Int) + 1 → d4 ≠ x)) := hid ⟨fun _ => e0, fun h => by first | exact hn.out.2.1 (by omega) | exact e0 | omega, fun h => by first | exact hn.out.2.2.1 (by omega) | exact e0 | omega, fun h => by first | exact hn.out.2.2.2.1 (by omega) | exact e0 | omega, fun h => by first | exact hn.out.2.2.2.2 (by omega) | exact e0 | omega⟩
        clear hn e0
        go_wp2
        go_roundw
        case rel => exact ⟨0 + 1, by omega, by omega, by go_num, trivial, nx⟩
        case measure => simp [intOf]
    · clear hk0 hk5
      by_cases e1 : d1 = x
      · have H := key (some 1) (by rw [F.out, if_neg (hn.out.1 (by omega)), if_pos e1])
        rw [decide_eq_true e1] at q1
        clear key F hn e1
        go_wp2
        go_ret2
        exact ⟨by rw [H.out]; rfl, rfl⟩
      · rw [decide_eq_false e1] at q1
        have nx : Hid ((0 < (1 : Int) + 1 → d0 ≠ x) ∧ (1 < (1 : Int) + 1 → d1 ≠ x) ∧ (2 < (1 : Int) + 1 → d2 ≠ x) ∧ (3 < (1 : Int) + 1 → d3 ≠ x) ∧ (4 < (1 : Int) + 1 → d4 ≠ x)) := hid ⟨fun h => by first | exact hn.out.1 (by omega) | exact e1 | omega, fun _ => e1, fun h => by first | exact hn.out.2.2.1 (by omega) | exact e1 | omega, fun h => by first | exact hn.out.2.2.2.1 (by omega) | exact e1 | omega, fun h => by first | exact hn.out.2.2.2.2 (by omega) | exact e1 | omega⟩
        clear hn e1
        go_wp2
        go_roundw
        case rel => exact ⟨1 + 1, by omega, by omega, by go_num, trivial, nx⟩
        case measure => simp [intOf]
    · clear hk0 hk5
      by_cases e2 : d2 = x
      · have H := key (some 2) (by rw [F.out, if_neg (hn.out.1 (by omega)), if_neg (hn.out.2.1 (by omega)), if_pos e2])
        rw [decide_eq_true e2] at q2
        clear key F hn e2
        go_wp2
        go_ret2
        exact ⟨by rw [H.out]; rfl, rfl⟩
      · rw [decide_eq_false e2] at q2
        have nx : Hid ((0 < (2 : Int) + 1 → d0 ≠ x) ∧ (1 < (2 : Int) + 1 → d1 ≠ x) ∧ (2 < (2 : Int) + 1 → d2 ≠ x) ∧ (3 < (2 : Int) + 1 → d3 ≠ x) ∧ (4 < (2 : Int) + 1 → d4 ≠ x)) := hid ⟨fun h => by first | exact hn.out.1 (by omega) | exact e2 | omega, fun h => by first | exact hn.out.2.1 (by omega) | exact e2 | omega, fun _ => e2, fun h => by first | exact hn.out.2.2.2.1 (by omega) | exact e2 | omega, fun h => by first | exact hn.out.2.2.2.2 (by omega) | exact e2 | omega⟩
        clear hn e2
        go_wp2
        go_roundw
        case rel => exact ⟨2 + 1, by omega, by omega, by go_num, trivial, nx⟩
        case measure => simp [intOf]
    · clear hk0 hk5
      by_cases e3 : d3 = x
      · have H := key (some 3) (by rw [F.out, if_neg (hn.out.1 (by omega)), if_neg (hn.out.2.1 (by omega)), if_neg (hn.out.2.2.1 (by omega)), if_pos e3])
        rw [decide_eq_true e3] at q3
        clear key F hn e3
        go_wp2
        go_ret2
        exact ⟨by rw [H.out]; rfl, rfl⟩
      · rw [decide_eq_false e3] at q3
        have nx : Hid ((0 < (3 : Int) + 1 → d0 ≠ x) ∧ (1 < (3 : Int) + 1 → d1 ≠ x) ∧ (2 < (3 : Int) + 1 → d2 ≠ x) ∧ (3 < (3 : Int) + 1 → d3 ≠ x) ∧ (4 < (3 : Int) + 1 → d4 ≠ x)) := hid ⟨fun h => by first | exact hn.out.1 (by omega) | exact e3 | omega, fun h => by first | exact hn.out.2.1 (by omega) | exact e3 | omega, fun h => by first | exact hn.out.2.2.1 (by omega) | exact e3 | omega, fun _ => e3, fun h => by first | exact hn.out.2.2.2.2 (by omega) | exact e3 | omega⟩
        clear hn e3
        go_wp2
        go_roundw
        case rel => exact ⟨3 + 1, by omega, by omega, by go_num, trivial, nx⟩
        case measure => simp [intOf]
    · clear hk0 hk5
      by_cases e4 : d4 = x
      · have H := key (some 4) (by rw [F.out, if_neg (hn.out.1 (by omega)), if_neg (hn.out.2.1 (by omega)), if_neg (hn.out.2.2.1 (by omega)), if_neg (hn.out.2.2.2.1 (by omega)), if_pos e4])
        rw [decide_eq_true e4] at q4
        clear key F hn e4
        go_wp2
        go_ret2
        exact ⟨by rw [H.out]; rfl, rfl⟩
      · rw [decide_eq_false e4] at q4
        have nx : Hid ((0 < (4 : Int) + 1 → d0 ≠ x) ∧ (1 < (4 : Int) + 1 → d1 ≠ x) ∧ (2 < (4 : Int) + 1 → d2 ≠ x) ∧ (3 < (4 : Int) + 1 → d3 ≠ x) ∧ (4 < (4 : Int) + 1 → d4 ≠ x)) := hid ⟨fun h => by first | exact hn.out.1 (by omega) | exact e4 | omega, fun h => by first | exact hn.out.2.1 (by omega) | exact e4 | omega, fun h => by first | exact hn.out.2.2.1 (by omega) | exact e4 | omega, fun h => by first | exact hn.out.2.2.2.1 (by omega) | exact e4 | omega, fun _ => e4⟩
        clear hn e4
        go_wp2
        go_roundw
        case rel => exact ⟨4 + 1, by omega, by omega, by go_num, trivial, nx⟩
        case measure => simp [intOf]
    · clear hk0 hk5
      have H := key none (by rw [F.out, if_neg (hn.out.1 (by omega)), if_neg (hn.out.2.1 (by omega)), if_neg (hn.out.2.2.1 (by omega)), if_neg (hn.out.2.2.2.1 (by omega)), if_neg (hn.out.2.2.2.2 (by omega))])
      clear key F hn
      go_wp2
      go_ret2
      exact ⟨by rw [H.out]; rfl, rfl⟩

/-- What numberAt answers. -/
def natA (l : Ws) (p : Nat) : Value := if l.length ≤ p then .tuple #[.int .i64 0, .int .i64 162] else match numW (l.getD p []) with
  | none => .tuple #[.int .i64 0, .int .i64 163]
  | some n => .tuple #[.int .i64 (n : Int), .int .i64 0]

set_option maxHeartbeats 800000 in
set_option maxRecDepth 1000000 in
theorem numberAt_any {v : Value} {l : Ws} {p : Nat} {w : World} (V : Vars w) (h : Rt w v l) (hl : l.length ≤ 140737488355328) (hs : ∀ x ∈ l, x.length ≤ 140737488355328) :
    Calls Tryz.prog 178 #[v, .int .i64 (p : Int)] w fun e w' => e = .returned (natA l p) ∧ Below w.heap.size w w' := by
  obtain ⟨ao, c, rfl⟩ := h.form
  by_cases hp : l.length ≤ p
  · have e1 : natA l p = .tuple #[.int .i64 0, .int .i64 162] := by unfold natA; rw [if_pos hp]
    rw [e1]
    have hp' : (l.length : Int) ≤ (p : Int) := by omega
    clear e1 hp h V hs
    generalize l.length = n at *
    go_enter Tryz.func178, Tryz.ntmps178
    go_wp2
    go_ret2
    exact ⟨rfl, Below.refl _ _⟩
  · obtain ⟨g, o, rfl, _, h1⟩ := h.at (j := p) (by omega)
    have hx : (l.getD p []).length ≤ 140737488355328 := hs _ (by
      have hlt : p < l.length := by omega
      have : l.getD p [] = l[p] := by simp [List.getD, hlt]
      rw [this]; exact List.getElem_mem hlt)
    have C := hid (Number_any (l := l.getD p []) V hx)
    have hp' : ¬ (l.length : Int) ≤ (p : Int) := by omega
    have hlt : p < l.length := by omega
    cases hN : numW (l.getD p []) with
    | none =>
      have e1 : natA l p = .tuple #[.int .i64 0, .int .i64 163] := by unfold natA; rw [if_neg hp, hN]
      rw [e1]
      unfold numA at C
      rw [hN] at C
      simp only [Option.getD_none, Option.isSome_none] at C
      clear e1 hN h V hs hp hx
      generalize ByteArray.mk (l.getD p []).toArray = X at *
      generalize l.length = n at *
      go_enter Tryz.func178, Tryz.ntmps178
      go_wp2_with (go_at_call 81; refine C.out.mono ?_; rintro e w1 ⟨rfl, B1⟩; have BB := hid B1; clear B1)
      go_ret2
      exact ⟨rfl, BB.out⟩
    | some z =>
      have e1 : natA l p = .tuple #[.int .i64 (z : Int), .int .i64 0] := by unfold natA; rw [if_neg hp, hN]
      rw [e1]
      unfold numA at C
      rw [hN] at C
      simp only [Option.getD_some, Option.isSome_some] at C
      clear e1 hN h V hs hp hx
      generalize ByteArray.mk (l.getD p []).toArray = X at *
      generalize l.length = n at *
      go_enter Tryz.func178, Tryz.ntmps178
      go_wp2_with (go_at_call 81; refine C.out.mono ?_; rintro e w1 ⟨rfl, B1⟩; have BB := hid B1; clear B1)
      go_ret2
      exact ⟨rfl, BB.out⟩
end Go.Proofs.YtfeppannfcbakaaGreatDoor

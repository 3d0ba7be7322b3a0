import Derived.Test.YtmpbdncgilahkaaTalI
namespace Go.Proofs.Ytmpbdncgilahkaa
open Go.RowKit
set_option linter.unusedVariables false

abbrev encS : ByteArray → Value := Value.string
def TalS (w : World) (P : Nat) (n : Int) (ws : List (Option ByteArray)) : Prop := TalB 78 (.string ⟨#[]⟩) w P n (ws.map (Option.map encS))

section
variable {w : World} {P k : Nat} {n : Int} {ws : List (Option ByteArray)} {o : Option ByteArray}
theorem TalS.len (h : TalS w P n ws) : ws.length = 7 := by simpa using h.2
theorem TalS.lt (h : TalS w P n ws) : P < w.heap.size := TalB.lt h
theorem TalS.c0 (h : TalS w P n ws) : w.cell? ⟨P, 0, none⟩ = some (.int .i64 n) := TalB.c0 h
theorem TalS.cw (h : TalS w P n ws) (hk : ws[k]? = some o) : w.cell? ⟨P, 1 + k * 2, none⟩ = some ((o.map encS).getD (.string ⟨#[]⟩)) := TalB.cw h (by rw [List.getElem?_map, hk]; rfl)
theorem TalS.cb (h : TalS w P n ws) (hk : ws[k]? = some o) : w.cell? ⟨P, 1 + k * 2 + 1, none⟩ = some (.bool o.isSome) := by
  rw [TalB.cb h (o := o.map encS) (by rw [List.getElem?_map, hk]; rfl)]; cases o <;> rfl
theorem TalS.free (h : TalS w P n ws) (j : Nat) : w.frozen? ⟨P, j, none⟩ = false := TalB.free h j
theorem TalS.put (h : TalS w P n ws) (hk : k < 7) (y : ByteArray) : TalS ((w.setCell ⟨P, 1 + k * 2, none⟩ (.string y)).setCell ⟨P, 1 + k * 2 + 1, none⟩ (.bool true)) P n (ws.set k (some y)) := by
  have := TalB.set h hk (some (.string y))
  unfold TalS
  rw [List.map_set]
  exact this
theorem TalS.wipe (h : TalS w P n ws) (hk : k < 7) : TalS ((w.setCell ⟨P, 1 + k * 2, none⟩ (.string ⟨#[]⟩)).setCell ⟨P, 1 + k * 2 + 1, none⟩ (.bool false)) P n (ws.set k none) := by
  have := TalB.set h hk none
  unfold TalS
  rw [List.map_set]
  exact this
theorem TalS.keep {w' : World} (h : TalS w P n ws) (hb : w'.heap[P]? = w.heap[P]?) : TalS w' P n ws := ⟨hb.trans h.1, h.2⟩
end

theorem hasS {w : World} {P : Nat} {n who : Int} {ws : List (Option ByteArray)} (h : TalS w P n ws) (h1 : 1 ≤ n) (h7 : n ≤ 7) : Calls Try.prog 59 #[.pointer (some ⟨P, 0, none⟩), .int .i64 who] w fun e w' => e = .returned (.bool (decide (0 ≤ who) && decide (who < n))) ∧ w' = w := by
  have c0 := h.c0
  clear h
  go_enter Try.func59, Try.ntmps59
  go_wp2_with fail
  refine (within_any _ _ _).mono ?_
  rintro e w1 ⟨rfl, rfl⟩
  go_wp2
  go_ret
  refine ⟨?_, rfl⟩
  have e1 : decide (who ≤ n - 1) = decide (who < n) := decide_eq_decide.2 (by omega)
  simp [wi, e1]

theorem NewS_ok {w : World} {n : Int} (h1 : 1 ≤ n) (h7 : n ≤ 7) : Calls Try.prog 38 #[.int .i64 n] w fun e w' => ∃ P, e = .returned (.tuple #[.pointer (some ⟨P, 0, none⟩), .int .i64 0]) ∧ Below w.heap.size w w' ∧ w.heap.size ≤ P ∧ TalS w' P n [none, none, none, none, none, none, none] := by
  have hw : wi n 1 7 = true := by simp [wi, h1, h7]
  go_enter Try.func38, Try.ntmps38
  go_wp2_with fail
  refine (within_any _ _ _).mono ?_
  rintro e w1 ⟨rfl, rfl⟩
  rw [hw]
  go_wp2
  go_ret2
  exact ⟨_, rfl, ba _ _, Nat.le_refl _, heap_alloc_new _ _, rfl⟩

theorem NewS_bad {w : World} {n : Int} (h : n < 1 ∨ 7 < n) : Calls Try.prog 38 #[.int .i64 n] w fun e w' => e = .returned (.tuple #[.pointer none, .int .i64 40]) ∧ w' = w := by
  have hw : wi n 1 7 = false := by
    unfold wi; rcases h with h | h
    · rw [decide_eq_false (p := 1 ≤ n) (by omega)]; rfl
    · rw [decide_eq_false (p := n ≤ 7) (by omega), Bool.and_false]
  clear h
  go_enter Try.func38, Try.ntmps38
  go_wp2_with fail
  refine (within_any _ _ _).mono ?_
  rintro e w1 ⟨rfl, rfl⟩
  rw [hw]
  go_wp2
  go_ret2
  exact ⟨rfl, rfl⟩

theorem AddS_bad {w : World} {P : Nat} {n who : Int} {v : Value} {ws : List (Option ByteArray)} (h : TalS w P n ws) (h1 : 1 ≤ n) (h7 : n ≤ 7) (hw : who < 0 ∨ n ≤ who) : Calls Try.prog 40 #[.pointer (some ⟨P, 0, none⟩), .int .i64 who, v] w fun e w' => e = .returned (.tuple #[.bool false, .int .i64 41]) ∧ w' = w := by
  have hb : (decide (0 ≤ who) && decide (who < n)) = false := by
    rcases hw with h | h
    · rw [decide_eq_false (p := 0 ≤ who) (by omega)]; rfl
    · rw [decide_eq_false (p := who < n) (by omega), Bool.and_false]
  clear hw
  have H := hid h
  clear h
  go_enter Try.func40, Try.ntmps40
  go_wp2_with fail
  refine (hasS H.out h1 h7).mono ?_
  rintro e w1 ⟨rfl, rfl⟩
  rw [hb]
  go_wp2
  go_ret2
  exact ⟨rfl, rfl⟩

set_option maxRecDepth 1000000 in
theorem AddS_ok {w : World} {P k : Nat} {n : Int} {y : ByteArray} {ws : List (Option ByteArray)} {o : Option ByteArray} (h : TalS w P n ws) (h1 : 1 ≤ n) (h7 : n ≤ 7) (hk : (k : Int) < n) (ho : ws[k]? = some o) :
    Calls Try.prog 40 #[.pointer (some ⟨P, 0, none⟩), .int .i64 k, .string y] w fun e w' => e = .returned (.tuple #[.bool (!o.isSome), .int .i64 0]) ∧ w' = (w.setCell ⟨P, 1 + k * 2, none⟩ (.string y)).setCell ⟨P, 1 + k * 2 + 1, none⟩ (.bool true) := by
  have hb : (decide (0 ≤ (k : Int)) && decide ((k : Int) < n)) = true := by simp [hk]
  have hk7 : (k : Int) < 7 := by omega
  have c1 := h.cw ho
  have c2 := h.cb ho
  have f1 := h.free (1 + k * 2)
  have f2 := h.free (1 + k * 2 + 1)
  have H := hid h
  clear h ho
  generalize o.isSome = b at c2 ⊢
  go_enter Try.func40, Try.ntmps40
  go_wp2_with fail
  refine (hasS H.out h1 h7).mono ?_
  rintro e w1 ⟨rfl, rfl⟩
  rw [hb]
  clear H h1 h7 hb
  go_wp2
  go_ret2
  exact ⟨rfl, rfl⟩

theorem GetS_bad {w : World} {P : Nat} {n who : Int} {ws : List (Option ByteArray)} (h : TalS w P n ws) (h1 : 1 ≤ n) (h7 : n ≤ 7) (hw : who < 0 ∨ n ≤ who) : Calls Try.prog 43 #[.pointer (some ⟨P, 0, none⟩), .int .i64 who] w fun e w' => e = .returned (.tuple #[(.string ⟨#[]⟩), .bool false]) ∧ w' = w := by
  have hb : (decide (0 ≤ who) && decide (who < n)) = false := by
    rcases hw with h | h
    · rw [decide_eq_false (p := 0 ≤ who) (by omega)]; rfl
    · rw [decide_eq_false (p := who < n) (by omega), Bool.and_false]
  clear hw
  have H := hid h
  clear h
  go_enter Try.func43, Try.ntmps43
  go_wp2_with fail
  refine (hasS H.out h1 h7).mono ?_
  rintro e w1 ⟨rfl, rfl⟩
  rw [hb]
  go_wp2
  go_ret2
  exact ⟨rfl, rfl⟩

set_option maxRecDepth 1000000 in
theorem GetS_ok {w : World} {P k : Nat} {n : Int} {ws : List (Option ByteArray)} {o : Option ByteArray} (h : TalS w P n ws) (h1 : 1 ≤ n) (h7 : n ≤ 7) (hk : (k : Int) < n) (ho : ws[k]? = some o) :
    Calls Try.prog 43 #[.pointer (some ⟨P, 0, none⟩), .int .i64 k] w fun e w' => e = .returned (.tuple #[(o.map encS).getD (.string ⟨#[]⟩), .bool o.isSome]) ∧ ∃ q, w' = w.drewN q := by
  have hb : (decide (0 ≤ (k : Int)) && decide ((k : Int) < n)) = true := by simp [hk]
  have hk7 : (k : Int) < 7 := by omega
  have c1 := h.cw ho
  have c2 := h.cb ho
  have H := hid h
  clear h ho
  generalize o.isSome = b at c2 ⊢
  obtain ⟨y, e2⟩ : ∃ y, (o.map encS).getD (.string ⟨#[]⟩) = .string y := by cases o <;> exact ⟨_, rfl⟩
  rw [e2] at c1 ⊢
  clear e2
  go_enter Try.func43, Try.ntmps43
  go_wp2_with fail
  refine (hasS H.out h1 h7).mono ?_
  rintro e w1 ⟨rfl, rfl⟩
  rw [hb]
  clear H h1 h7 hb
  go_wp2
  go_region
  go_wp2
  go_ret2
  exact ⟨rfl, 1, rfl⟩

theorem DropS_bad {w : World} {P : Nat} {n who : Int} {ws : List (Option ByteArray)} (h : TalS w P n ws) (h1 : 1 ≤ n) (h7 : n ≤ 7) (hw : who < 0 ∨ n ≤ who) : Calls Try.prog 46 #[.pointer (some ⟨P, 0, none⟩), .int .i64 who] w fun e w' => e = .returned (.bool false) ∧ w' = w := by
  have hb : (decide (0 ≤ who) && decide (who < n)) = false := by
    rcases hw with h | h
    · rw [decide_eq_false (p := 0 ≤ who) (by omega)]; rfl
    · rw [decide_eq_false (p := who < n) (by omega), Bool.and_false]
  clear hw
  have H := hid h
  clear h
  go_enter Try.func46, Try.ntmps46
  go_wp2_with fail
  refine (hasS H.out h1 h7).mono ?_
  rintro e w1 ⟨rfl, rfl⟩
  rw [hb]
  go_wp2
  go_ret
  exact ⟨rfl, rfl⟩

set_option maxRecDepth 1000000 in
theorem DropS_ok {w : World} {P k : Nat} {n : Int} {ws : List (Option ByteArray)} {o : Option ByteArray} (h : TalS w P n ws) (h1 : 1 ≤ n) (h7 : n ≤ 7) (hk : (k : Int) < n) (ho : ws[k]? = some o) :
    Calls Try.prog 46 #[.pointer (some ⟨P, 0, none⟩), .int .i64 k] w fun e w' => e = .returned (.bool o.isSome) ∧ w' = (w.setCell ⟨P, 1 + k * 2, none⟩ (.string ⟨#[]⟩)).setCell ⟨P, 1 + k * 2 + 1, none⟩ (.bool false) := by
  have hb : (decide (0 ≤ (k : Int)) && decide ((k : Int) < n)) = true := by simp [hk]
  have hk7 : (k : Int) < 7 := by omega
  have c1 := h.cw ho
  have c2 := h.cb ho
  have f1 := h.free (1 + k * 2)
  have f2 := h.free (1 + k * 2 + 1)
  have H := hid h
  clear h ho
  generalize o.isSome = b at c2 ⊢
  go_enter Try.func46, Try.ntmps46
  go_wp2_with fail
  refine (hasS H.out h1 h7).mono ?_
  rintro e w1 ⟨rfl, rfl⟩
  rw [hb]
  clear H h1 h7 hb
  go_wp2
  go_ret
  exact ⟨rfl, rfl⟩
end Go.Proofs.Ytmpbdncgilahkaa

import Derived.Test.YtmpbdncgilahkaaNum
namespace Go.Proofs.Ytmpbdncgilahkaa
open Go.RowKit
set_option linter.unusedVariables false

/-- What a voter has said, as it lies in two cells. -/
def wcell (z : Value) : Option Value → List Value
  | none => [z, .bool false]
  | some v => [v, .bool true]
def flatW (z : Value) (ws : List (Option Value)) : List Value := ws.flatMap (wcell z)

theorem wcell_len (z : Value) (o : Option Value) : (wcell z o).length = 2 := by cases o <;> rfl
theorem flatW_len (z : Value) (ws : List (Option Value)) : (flatW z ws).length = 2 * ws.length := by
  induction ws with
  | nil => rfl
  | cons a ws ih => simp only [flatW, List.flatMap_cons, List.length_append, wcell_len, List.length_cons] at *; omega
theorem flatW_get (z : Value) : ∀ (ws : List (Option Value)) (k : Nat) (o : Option Value), ws[k]? = some o → (flatW z ws)[2 * k]? = some (o.getD z) ∧ (flatW z ws)[2 * k + 1]? = some (.bool o.isSome)
  | [], k, o, h => by simp at h
  | a :: ws, 0, o, h => by
    obtain rfl : a = o := by simpa using h
    cases a <;> exact ⟨rfl, rfl⟩
  | a :: ws, k + 1, o, h => by
    have ih := flatW_get z ws k o (by simpa using h)
    have e : flatW z (a :: ws) = wcell z a ++ flatW z ws := rfl
    rw [e, List.getElem?_append_right (by rw [wcell_len]; omega), List.getElem?_append_right (by rw [wcell_len]; omega), wcell_len]
    exact ih
theorem flatW_set (z : Value) : ∀ (ws : List (Option Value)) (k : Nat) (o : Option Value), k < ws.length → ((flatW z ws).set (2 * k) (o.getD z)).set (2 * k + 1) (.bool o.isSome) = flatW z (ws.set k o)
  | [], k, o, h => by simp at h
  | a :: ws, 0, o, h => by
    cases a <;> cases o <;> rfl
  | a :: ws, k + 1, o, h => by
    have ih := flatW_set z ws k o (by simpa using h)
    have e : flatW z (a :: ws) = wcell z a ++ flatW z ws := rfl
    have e' : flatW z ((a :: ws).set (k + 1) o) = wcell z a ++ flatW z (ws.set k o) := rfl
    rw [e, e', ← ih, show 2 * (k + 1) = 2 + 2 * k by omega, show 2 + 2 * k + 1 = 2 + (2 * k + 1) by omega]
    cases a <;> simp [wcell, List.set, Nat.add_comm 2]

/-- A tally lies in a block. -/
def TalB (T : TypeId) (z : Value) (w : World) (P : Nat) (n : Int) (ws : List (Option Value)) : Prop :=
  w.heap[P]? = some (.cells (.int .i64 n :: flatW z ws).toArray T (0, 0)) ∧ ws.length = 7

section
variable {T : TypeId} {z : Value} {w : World} {P : Nat} {n : Int} {ws : List (Option Value)}
theorem TalB.c0 (h : TalB T z w P n ws) : w.cell? ⟨P, 0, none⟩ = some (.int .i64 n) := by rw [cell_at h.1]; rfl
theorem TalB.lt (h : TalB T z w P n ws) : P < w.heap.size := (Array.getElem?_eq_some_iff.1 h.1).1
theorem TalB.cw (h : TalB T z w P n ws) {k : Nat} {o : Option Value} (hk : ws[k]? = some o) : w.cell? ⟨P, 1 + k * 2, none⟩ = some (o.getD z) := by
  rw [cell_at h.1, show 1 + k * 2 = 2 * k + 1 by omega]; simpa using (flatW_get z ws k o hk).1
theorem TalB.cb (h : TalB T z w P n ws) {k : Nat} {o : Option Value} (hk : ws[k]? = some o) : w.cell? ⟨P, 1 + k * 2 + 1, none⟩ = some (.bool o.isSome) := by
  rw [cell_at h.1, show 1 + k * 2 + 1 = (2 * k + 1) + 1 by omega]; simpa using (flatW_get z ws k o hk).2
theorem TalB.free (h : TalB T z w P n ws) (j : Nat) : w.frozen? ⟨P, j, none⟩ = false := free_at h.1 j
theorem TalB.set (h : TalB T z w P n ws) {k : Nat} (hk : k < 7) (o : Option Value) : TalB T z ((w.setCell ⟨P, 1 + k * 2, none⟩ (o.getD z)).setCell ⟨P, 1 + k * 2 + 1, none⟩ (.bool o.isSome)) P n (ws.set k o) := by
  refine ⟨?_, by simpa using h.2⟩
  rw [heap_setCell_same (heap_setCell_same h.1 _)]
  have := flatW_set z ws k o (by rw [h.2]; exact hk)
  rw [← this, show 1 + k * 2 = 2 * k + 1 by omega]
  simp only [List.setIfInBounds_toArray, List.set_cons_succ]
end

abbrev encI : Int → Value := Value.int .i64
def TalI (w : World) (P : Nat) (n : Int) (ws : List (Option Int)) : Prop := TalB 73 (.int .i64 0) w P n (ws.map (Option.map encI))

section
variable {w : World} {P k : Nat} {n : Int} {ws : List (Option Int)} {o : Option Int}
theorem TalI.len (h : TalI w P n ws) : ws.length = 7 := by simpa using h.2
theorem TalI.lt (h : TalI w P n ws) : P < w.heap.size := TalB.lt h
theorem TalI.c0 (h : TalI w P n ws) : w.cell? ⟨P, 0, none⟩ = some (.int .i64 n) := TalB.c0 h
theorem TalI.cw (h : TalI w P n ws) (hk : ws[k]? = some o) : w.cell? ⟨P, 1 + k * 2, none⟩ = some ((o.map encI).getD (.int .i64 0)) := TalB.cw h (by rw [List.getElem?_map, hk]; rfl)
theorem TalI.cb (h : TalI w P n ws) (hk : ws[k]? = some o) : w.cell? ⟨P, 1 + k * 2 + 1, none⟩ = some (.bool o.isSome) := by
  rw [TalB.cb h (o := o.map encI) (by rw [List.getElem?_map, hk]; rfl)]; cases o <;> rfl
theorem TalI.free (h : TalI w P n ws) (j : Nat) : w.frozen? ⟨P, j, none⟩ = false := TalB.free h j
theorem TalI.put (h : TalI w P n ws) (hk : k < 7) (y : Int) : TalI ((w.setCell ⟨P, 1 + k * 2, none⟩ (.int .i64 y)).setCell ⟨P, 1 + k * 2 + 1, none⟩ (.bool true)) P n (ws.set k (some y)) := by
  have := TalB.set h hk (some (.int .i64 y))
  unfold TalI
  rw [List.map_set]
  exact this
theorem TalI.wipe (h : TalI w P n ws) (hk : k < 7) : TalI ((w.setCell ⟨P, 1 + k * 2, none⟩ (.int .i64 0)).setCell ⟨P, 1 + k * 2 + 1, none⟩ (.bool false)) P n (ws.set k none) := by
  have := TalB.set h hk none
  unfold TalI
  rw [List.map_set]
  exact this
theorem TalI.keep {w' : World} (h : TalI w P n ws) (hb : w'.heap[P]? = w.heap[P]?) : TalI w' P n ws := ⟨hb.trans h.1, h.2⟩
end

theorem hasI {w : World} {P : Nat} {n who : Int} {ws : List (Option Int)} (h : TalI w P n ws) (h1 : 1 ≤ n) (h7 : n ≤ 7) : Calls Try.prog 56 #[.pointer (some ⟨P, 0, none⟩), .int .i64 who] w fun e w' => e = .returned (.bool (decide (0 ≤ who) && decide (who < n))) ∧ w' = w := by
  have c0 := h.c0
  clear h
  go_enter Try.func56, Try.ntmps56
  go_wp2_with fail
  refine (within_any _ _ _).mono ?_
  rintro e w1 ⟨rfl, rfl⟩
  go_wp2
  go_ret
  refine ⟨?_, rfl⟩
  have e1 : decide (who ≤ n - 1) = decide (who < n) := decide_eq_decide.2 (by omega)
  simp [wi, e1]

theorem NewI_ok {w : World} {n : Int} (h1 : 1 ≤ n) (h7 : n ≤ 7) : Calls Try.prog 28 #[.int .i64 n] w fun e w' => ∃ P, e = .returned (.tuple #[.pointer (some ⟨P, 0, none⟩), .int .i64 0]) ∧ Below w.heap.size w w' ∧ w.heap.size ≤ P ∧ TalI w' P n [none, none, none, none, none, none, none] := by
  have hw : wi n 1 7 = true := by simp [wi, h1, h7]
  go_enter Try.func28, Try.ntmps28
  go_wp2_with fail
  refine (within_any _ _ _).mono ?_
  rintro e w1 ⟨rfl, rfl⟩
  rw [hw]
  go_wp2
  go_ret2
  exact ⟨_, rfl, ba _ _, Nat.le_refl _, heap_alloc_new _ _, rfl⟩

theorem NewI_bad {w : World} {n : Int} (h : n < 1 ∨ 7 < n) : Calls Try.prog 28 #[.int .i64 n] w fun e w' => e = .returned (.tuple #[.pointer none, .int .i64 40]) ∧ w' = w := by
  have hw : wi n 1 7 = false := by
    unfold wi; rcases h with h | h
    · rw [decide_eq_false (p := 1 ≤ n) (by omega)]; rfl
    · rw [decide_eq_false (p := n ≤ 7) (by omega), Bool.and_false]
  clear h
  go_enter Try.func28, Try.ntmps28
  go_wp2_with fail
  refine (within_any _ _ _).mono ?_
  rintro e w1 ⟨rfl, rfl⟩
  rw [hw]
  go_wp2
  go_ret2
  exact ⟨rfl, rfl⟩

theorem AddI_bad {w : World} {P : Nat} {n who : Int} {v : Value} {ws : List (Option Int)} (h : TalI w P n ws) (h1 : 1 ≤ n) (h7 : n ≤ 7) (hw : who < 0 ∨ n ≤ who) : Calls Try.prog 29 #[.pointer (some ⟨P, 0, none⟩), .int .i64 who, v] w fun e w' => e = .returned (.tuple #[.bool false, .int .i64 41]) ∧ w' = w := by
  have hb : (decide (0 ≤ who) && decide (who < n)) = false := by
    rcases hw with h | h
    · rw [decide_eq_false (p := 0 ≤ who) (by omega)]; rfl
    · rw [decide_eq_false (p := who < n) (by omega), Bool.and_false]
  clear hw
  have H := hid h
  clear h
  go_enter Try.func29, Try.ntmps29
  go_wp2_with fail
  refine (hasI H.out h1 h7).mono ?_
  rintro e w1 ⟨rfl, rfl⟩
  rw [hb]
  go_wp2
  go_ret2
  exact ⟨rfl, rfl⟩

set_option maxRecDepth 1000000 in
theorem AddI_ok {w : World} {P k : Nat} {n : Int} {y : Int} {ws : List (Option Int)} {o : Option Int} (h : TalI w P n ws) (h1 : 1 ≤ n) (h7 : n ≤ 7) (hk : (k : Int) < n) (ho : ws[k]? = some o) :
    Calls Try.prog 29 #[.pointer (some ⟨P, 0, none⟩), .int .i64 k, .int .i64 y] w fun e w' => e = .returned (.tuple #[.bool (!o.isSome), .int .i64 0]) ∧ w' = (w.setCell ⟨P, 1 + k * 2, none⟩ (.int .i64 y)).setCell ⟨P, 1 + k * 2 + 1, none⟩ (.bool true) := by
  have hb : (decide (0 ≤ (k : Int)) && decide ((k : Int) < n)) = true := by simp [hk]
  have hk7 : (k : Int) < 7 := by omega
  have c1 := h.cw ho
  have c2 := h.cb ho
  have f1 := h.free (1 + k * 2)
  have f2 := h.free (1 + k * 2 + 1)
  have H := hid h
  clear h ho
  generalize o.isSome = b at c2 ⊢
  go_enter Try.func29, Try.ntmps29
  go_wp2_with fail
  refine (hasI H.out h1 h7).mono ?_
  rintro e w1 ⟨rfl, rfl⟩
  rw [hb]
  clear H h1 h7 hb
  go_wp2
  go_ret2
  exact ⟨rfl, rfl⟩

theorem GetI_bad {w : World} {P : Nat} {n who : Int} {ws : List (Option Int)} (h : TalI w P n ws) (h1 : 1 ≤ n) (h7 : n ≤ 7) (hw : who < 0 ∨ n ≤ who) : Calls Try.prog 30 #[.pointer (some ⟨P, 0, none⟩), .int .i64 who] w fun e w' => e = .returned (.tuple #[(.int .i64 0), .bool false]) ∧ w' = w := by
  have hb : (decide (0 ≤ who) && decide (who < n)) = false := by
    rcases hw with h | h
    · rw [decide_eq_false (p := 0 ≤ who) (by omega)]; rfl
    · rw [decide_eq_false (p := who < n) (by omega), Bool.and_false]
  clear hw
  have H := hid h
  clear h
  go_enter Try.func30, Try.ntmps30
  go_wp2_with fail
  refine (hasI H.out h1 h7).mono ?_
  rintro e w1 ⟨rfl, rfl⟩
  rw [hb]
  go_wp2
  go_ret2
  exact ⟨rfl, rfl⟩

set_option maxRecDepth 1000000 in
theorem GetI_ok {w : World} {P k : Nat} {n : Int} {ws : List (Option Int)} {o : Option Int} (h : TalI w P n ws) (h1 : 1 ≤ n) (h7 : n ≤ 7) (hk : (k : Int) < n) (ho : ws[k]? = some o) :
    Calls Try.prog 30 #[.pointer (some ⟨P, 0, none⟩), .int .i64 k] w fun e w' => e = .returned (.tuple #[(o.map encI).getD (.int .i64 0), .bool o.isSome]) ∧ ∃ q, w' = w.drewN q := by
  have hb : (decide (0 ≤ (k : Int)) && decide ((k : Int) < n)) = true := by simp [hk]
  have hk7 : (k : Int) < 7 := by omega
  have c1 := h.cw ho
  have c2 := h.cb ho
  have H := hid h
  clear h ho
  generalize o.isSome = b at c2 ⊢
  obtain ⟨y, e2⟩ : ∃ y, (o.map encI).getD (.int .i64 0) = .int .i64 y := by cases o <;> exact ⟨_, rfl⟩
  rw [e2] at c1 ⊢
  clear e2
  go_enter Try.func30, Try.ntmps30
  go_wp2_with fail
  refine (hasI H.out h1 h7).mono ?_
  rintro e w1 ⟨rfl, rfl⟩
  rw [hb]
  clear H h1 h7 hb
  go_wp2
  go_region
  go_wp2
  go_ret2
  exact ⟨rfl, 1, rfl⟩

theorem DropI_bad {w : World} {P : Nat} {n who : Int} {ws : List (Option Int)} (h : TalI w P n ws) (h1 : 1 ≤ n) (h7 : n ≤ 7) (hw : who < 0 ∨ n ≤ who) : Calls Try.prog 45 #[.pointer (some ⟨P, 0, none⟩), .int .i64 who] w fun e w' => e = .returned (.bool false) ∧ w' = w := by
  have hb : (decide (0 ≤ who) && decide (who < n)) = false := by
    rcases hw with h | h
    · rw [decide_eq_false (p := 0 ≤ who) (by omega)]; rfl
    · rw [decide_eq_false (p := who < n) (by omega), Bool.and_false]
  clear hw
  have H := hid h
  clear h
  go_enter Try.func45, Try.ntmps45
  go_wp2_with fail
  refine (hasI H.out h1 h7).mono ?_
  rintro e w1 ⟨rfl, rfl⟩
  rw [hb]
  go_wp2
  go_ret
  exact ⟨rfl, rfl⟩

set_option maxRecDepth 1000000 in
theorem DropI_ok {w : World} {P k : Nat} {n : Int} {ws : List (Option Int)} {o : Option Int} (h : TalI w P n ws) (h1 : 1 ≤ n) (h7 : n ≤ 7) (hk : (k : Int) < n) (ho : ws[k]? = some o) :
    Calls Try.prog 45 #[.pointer (some ⟨P, 0, none⟩), .int .i64 k] w fun e w' => e = .returned (.bool o.isSome) ∧ w' = (w.setCell ⟨P, 1 + k * 2, none⟩ (.int .i64 0)).setCell ⟨P, 1 + k * 2 + 1, none⟩ (.bool false) := by
  have hb : (decide (0 ≤ (k : Int)) && decide ((k : Int) < n)) = true := by simp [hk]
  have hk7 : (k : Int) < 7 := by omega
  have c1 := h.cw ho
  have c2 := h.cb ho
  have f1 := h.free (1 + k * 2)
  have f2 := h.free (1 + k * 2 + 1)
  have H := hid h
  clear h ho
  generalize o.isSome = b at c2 ⊢
  go_enter Try.func45, Try.ntmps45
  go_wp2_with fail
  refine (hasI H.out h1 h7).mono ?_
  rintro e w1 ⟨rfl, rfl⟩
  rw [hb]
  clear H h1 h7 hb
  go_wp2
  go_ret
  exact ⟨rfl, rfl⟩
end Go.Proofs.Ytmpbdncgilahkaa

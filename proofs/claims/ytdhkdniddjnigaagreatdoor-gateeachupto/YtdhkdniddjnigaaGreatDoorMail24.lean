import Derived.Test.YtdhkdniddjnigaaGreatDoorMail23
import Derived.Deep.MidRow
namespace Go.Proofs.YtdhkdniddjnigaaGreatDoor
open Go.RowKit Go.Lib
set_option linter.unusedVariables false

/-- Is it to itself? -/
def Ms.slf (m : Ms) : Bool := decide (m.f = m.t) && (!decide (m.k = 1 ∨ m.k = 14) && !decide (m.k = 2 ∨ m.k = 3 ∨ m.k = 15))
set_option maxRecDepth 1000000 in
theorem itself_any {w : World} (m : Ms) : Calls Tryz.prog 93 #[m.V] w fun e w' => e = .returned (.bool m.slf) ∧ Below w.heap.size w w' := by
  have C10 : Hid (∀ W : World, Calls Tryz.prog 91 #[.int .i64 m.k] W fun e w' => e = .returned (.bool (decide (m.k = 1 ∨ m.k = 14))) ∧ w' = W) := hid (fun W => from_any m.k)
  have C11 : Hid (∀ W : World, Calls Tryz.prog 92 #[.int .i64 m.k] W fun e w' => e = .returned (.bool (decide (m.k = 2 ∨ m.k = 3 ∨ m.k = 15))) ∧ w' = W) := hid (fun W => to_any m.k)
  have E : Hid (m.slf = (decide (m.f = m.t) && (!decide (m.k = 1 ∨ m.k = 14) && !decide (m.k = 2 ∨ m.k = 3 ∨ m.k = 15)))) := hid rfl
  generalize decide (m.k = 1 ∨ m.k = 14) = x at C10 E
  generalize decide (m.k = 2 ∨ m.k = 3 ∨ m.k = 15) = y at C11 E
  generalize m.slf = z at E ⊢
  by_cases hne : m.f = m.t
  rotate_left
  · have F : Hid (z = false) := hid (by rw [E.out, decide_eq_false hne]; rfl)
    have hb : (m.f == m.t) = false := by simpa using hne
    clear hne
    go_enter Tryz.func93, Tryz.ntmps93
    go_wp2
    go_ret
    exact ⟨by rw [F.out]; rfl, ba _ _⟩
  have hb : (m.f == m.t) = true := by simpa using hne
  have F : Hid (z = (!x && !y)) := hid (by rw [E.out, decide_eq_true hne]; rfl)
  clear hne E
  have BA := hid (ba w (.cells m.cells.toArray 51))
  have M0 := hid (MsAt.new w m)
  go_enter Tryz.func93, Tryz.ntmps93
  go_upto_region 1 with fail
  obtain ⟨b, hbb⟩ : ∃ b, Hid (b = w.heap.size) := ⟨_, hid rfl⟩
  have e0 : Hid (∀ o, w.alloc o = w.alloc o) := hid (fun _ => rfl)
  rw [← hbb.out] at M0 ⊢
  change Code.wp _ _ _ _ (w.alloc (.cells m.cells.toArray 51))
  generalize w.alloc (.cells m.cells.toArray 51) = w1 at BA M0 ⊢
  have c0 : w1.cell? ⟨b, 0, none⟩ = some (.int .i64 m.k) := M0.out 0 _ rfl
  have c1 : w1.cell? ⟨b, 1, none⟩ = some (.int .i64 m.f) := M0.out 1 _ rfl
  have c2 : w1.cell? ⟨b, 2, none⟩ = some (.int .i64 m.t) := M0.out 2 _ rfl
  cases x
  · cases y
    · go_wp2_with (first | (go_at_call 91; refine (C10.out _).mono ?_; rintro e w' ⟨rfl, rfl⟩) | (go_at_call 92; refine (C11.out _).mono ?_; rintro e w' ⟨rfl, rfl⟩))
      go_ret
      exact ⟨by rw [F.out]; rfl, BA.out⟩
    · go_wp2_with (first | (go_at_call 91; refine (C10.out _).mono ?_; rintro e w' ⟨rfl, rfl⟩) | (go_at_call 92; refine (C11.out _).mono ?_; rintro e w' ⟨rfl, rfl⟩))
      go_ret
      exact ⟨by rw [F.out]; rfl, BA.out⟩
  · go_wp2_with (first | (go_at_call 91; refine (C10.out _).mono ?_; rintro e w' ⟨rfl, rfl⟩) | (go_at_call 92; refine (C11.out _).mono ?_; rintro e w' ⟨rfl, rfl⟩))
    go_ret
    exact ⟨by rw [F.out]; rfl, BA.out⟩
/-- Is there such an end? -/
def endB (n who : Int) (c : Bool) : Bool := if c then decide (0 ≤ who ∧ who ≤ 7) else decide (0 ≤ who ∧ who ≤ n - 1)
/-- What Check tells. -/
def chkM (n : Int) (m : Ms) (E : Int) : Int := if ¬(n = 3 ∨ n = 5 ∨ n = 7) then 1 else if ¬(1 ≤ m.k ∧ m.k ≤ 15) then 110 else if endB n m.f (decide (m.k = 1 ∨ m.k = 14)) = false then 111
  else if endB n m.t (decide (m.k = 2 ∨ m.k = 3 ∨ m.k = 15)) = false then 112 else if m.slf = true then 112 else E
set_option maxHeartbeats 6400000 in
set_option maxRecDepth 1000000 in
/-- Check of any message. -/
theorem checkM_any {w : World} (n : Int) (hn : -9223372036854775808 < n) (hn2 : n ≤ 9223372036854775807) (m : Ms) (E : Int)
    (H34 : 1 ≤ m.k ∧ m.k ≤ 15 → ∀ (W : World) (b : Nat), Below w.heap.size w W → MsAt W b m → Calls Tryz.prog 94 #[.pointer (some ⟨b, 0, none⟩)] W fun e w' => e = .returned (.int .i64 E) ∧ Below W.heap.size W w') :
    Calls Tryz.prog 56 #[.int .i64 n, m.V] w fun e w' => e = .returned (.int .i64 (chkM n m E)) ∧ Below w.heap.size w w' := by
  obtain ⟨r, hr⟩ : ∃ r, Hid (chkM n m E = r) := ⟨_, hid rfl⟩
  rw [hr.out]
  have C31 : Hid (∀ W : World, Calls Tryz.prog 89 #[.int .i64 n] W fun e w' => e = .returned (.bool (decide (n = 3 ∨ n = 5 ∨ n = 7))) ∧ w' = W) := hid (fun W => fleet_any n)
  have M0 := hid (MsAt.new w m)
  have B0 := hid (ba w (.cells m.cells.toArray 51))
  by_cases hf : n = 3 ∨ n = 5 ∨ n = 7
  rotate_left
  · have F : Hid (r = 1) := hid (by rw [← hr.out]; unfold chkM; rw [if_pos hf])
    rw [decide_eq_false hf] at C31
    clear hf H34 hr
    go_enter Tryz.func56, Tryz.ntmps56
    go_wp2_with fail
    refine (C31.out _).mono ?_
    rintro e w1 ⟨rfl, hw1⟩
    have B0 : Hid (Below w.heap.size w w1) := hid (by rw [hw1]; exact B0.out)
    clear hw1 C31
    go_wp2
    go_ret
    exact ⟨by rw [F.out]; rfl, B0.out⟩
  rw [decide_eq_true hf] at C31
  have hr : Hid ((if ¬(1 ≤ m.k ∧ m.k ≤ 15) then 110 else if endB n m.f (decide (m.k = 1 ∨ m.k = 14)) = false then 111 else if endB n m.t (decide (m.k = 2 ∨ m.k = 3 ∨ m.k = 15)) = false then 112 else if m.slf = true then 112 else E) = r) := hid (by rw [← hr.out]; unfold chkM; rw [if_neg (not_not_intro hf)])
  clear hf
  by_cases k1 : m.k < 1
  · have F : Hid (r = 110) := hid (by rw [← hr.out, if_pos (by omega)])
    have e1 : decide (m.k < 1) = true := by simpa using k1
    clear k1 H34 hr
    go_enter Tryz.func56, Tryz.ntmps56
    go_wp2_with fail
    refine (C31.out _).mono ?_
    rintro e w1 ⟨rfl, hw1⟩
    have c0 : w1.cell? ⟨w.heap.size, 0, none⟩ = some (.int .i64 m.k) := by rw [hw1]; exact M0.out 0 _ rfl
    have B0 : Hid (Below w.heap.size w w1) := hid (by rw [hw1]; exact B0.out)
    clear hw1 C31
    go_wp2
    go_ret
    exact ⟨by rw [F.out]; rfl, B0.out⟩
  have e1 : decide (m.k < 1) = false := by simpa using k1
  by_cases k2 : 15 < m.k
  · have F : Hid (r = 110) := hid (by rw [← hr.out, if_pos (by omega)])
    have e2 : decide (15 < m.k) = true := by simpa using k2
    clear k1 k2 H34 hr
    go_enter Tryz.func56, Tryz.ntmps56
    go_wp2_with fail
    refine (C31.out _).mono ?_
    rintro e w1 ⟨rfl, hw1⟩
    have c0 : w1.cell? ⟨w.heap.size, 0, none⟩ = some (.int .i64 m.k) := by rw [hw1]; exact M0.out 0 _ rfl
    have B0 : Hid (Below w.heap.size w w1) := hid (by rw [hw1]; exact B0.out)
    clear hw1 C31
    go_wp2
    go_ret
    exact ⟨by rw [F.out]; rfl, B0.out⟩
  have e2 : decide (15 < m.k) = false := by simpa using k2
  have HH := hid (H34 (by omega))
  have hr : Hid ((if endB n m.f (decide (m.k = 1 ∨ m.k = 14)) = false then 111 else if endB n m.t (decide (m.k = 2 ∨ m.k = 3 ∨ m.k = 15)) = false then 112 else if m.slf = true then 112 else E) = r) := hid (by rw [← hr.out, if_neg (c := ¬(1 ≤ m.k ∧ m.k ≤ 15)) (by omega)])
  have C10 : Hid (∀ W : World, Calls Tryz.prog 91 #[.int .i64 m.k] W fun e w' => e = .returned (.bool (decide (m.k = 1 ∨ m.k = 14))) ∧ w' = W) := hid (fun W => from_any m.k)
  have C11 : Hid (∀ W : World, Calls Tryz.prog 92 #[.int .i64 m.k] W fun e w' => e = .returned (.bool (decide (m.k = 2 ∨ m.k = 3 ∨ m.k = 15))) ∧ w' = W) := hid (fun W => to_any m.k)
  have CF : Hid (∀ (c : Bool) (W : World), Calls Tryz.prog 90 #[.int .i64 n, .int .i64 m.f, .bool c] W fun e w' => e = .returned (.bool (endB n m.f c)) ∧ w' = W) := hid (fun c W => isEnd_any n m.f c hn hn2)
  have CT : Hid (∀ (c : Bool) (W : World), Calls Tryz.prog 90 #[.int .i64 n, .int .i64 m.t, .bool c] W fun e w' => e = .returned (.bool (endB n m.t c)) ∧ w' = W) := hid (fun c W => isEnd_any n m.t c hn hn2)
  have C33 : Hid (∀ W : World, Calls Tryz.prog 93 #[.agg m.cells.toArray] W fun e w' => e = .returned (.bool m.slf) ∧ Below W.heap.size W w') := hid (fun W => itself_any m)
  generalize decide (m.k = 1 ∨ m.k = 14) = cF at C10 hr
  generalize decide (m.k = 2 ∨ m.k = 3 ∨ m.k = 15) = cT at C11 hr
  have CF : Hid (∀ (W : World), Calls Tryz.prog 90 #[.int .i64 n, .int .i64 m.f, .bool cF] W fun e w' => e = .returned (.bool (endB n m.f cF)) ∧ w' = W) := hid (CF.out cF)
  have CT : Hid (∀ (W : World), Calls Tryz.prog 90 #[.int .i64 n, .int .i64 m.t, .bool cT] W fun e w' => e = .returned (.bool (endB n m.t cT)) ∧ w' = W) := hid (CT.out cT)
  generalize endB n m.f cF = eF at CF hr
  generalize endB n m.t cT = eT at CT hr
  generalize m.slf = sB at C33 hr
  clear H34 k1 k2 hn hn2
  go_enter Tryz.func56, Tryz.ntmps56
  go_wp2_with fail
  refine (C31.out _).mono ?_
  rintro e w1 ⟨rfl, hw1⟩
  have M0 : Hid (MsAt w1 w.heap.size m) := hid (by rw [hw1]; exact M0.out)
  have B0 : Hid (Below w.heap.size w w1) := hid (by rw [hw1]; exact B0.out)
  clear hw1 C31
  obtain ⟨b, hbb⟩ : ∃ b, Hid (b = w.heap.size) := ⟨_, hid rfl⟩
  rw [← hbb.out] at M0
  simp only [← hbb.out]
  have B0 : Hid (Below w.heap.size w w1) := hid (by have := B0.out; rwa [← hbb.out] at this ⊢)
  have c0 : w1.cell? ⟨b, 0, none⟩ = some (.int .i64 m.k) := M0.out 0 _ rfl
  have c1 : w1.cell? ⟨b, 1, none⟩ = some (.int .i64 m.f) := M0.out 1 _ rfl
  go_wp2
  go_region_held3 (fun W => W.cell? ⟨b, 0, none⟩ = some (.int .i64 m.k) ∧ W.cell? ⟨b, 1, none⟩ = some (.int .i64 m.f)) (go_keep)
    (first
      | (go_at_call 91; refine (C10.out _).mono ?_; rintro e w2 ⟨rfl, hw2⟩; subst hw2)
      | (go_at_call 90; refine (CF.out _).mono ?_; rintro e w2 ⟨rfl, hw2⟩; subst hw2))
  have M3 : Hid (MsAt w1.drew b m) := hid (M0.out.under (bd w1))
  have B3 : Hid (Below w.heap.size w w1.drew) := hid (b2 B0.out (bd w1))
  generalize w1.drew = w3 at M3 B3 ⊢
  clear M0 B0 C10 CF c0 c1
  cases eF
  · have F : Hid (r = 111) := hid (by rw [← hr.out]; rfl)
    clear hr
    go_wp2
    go_ret
    exact ⟨by rw [F.out]; rfl, by first | exact B3.out | (rw [hbb.out]; exact B3.out)⟩
  have hr : Hid ((if eT = false then 112 else if sB = true then 112 else E) = r) := hid (by rw [← hr.out]; rfl)
  have y0 := (M3.out.under (bd w3)) 0 _ rfl
  have y2 := (M3.out.under (bd w3)) 2 _ rfl
  have yM := M3.out.under (bd w3)
  have yR : Hid (w3.drew.rangeAt b 0 m.cells) := hid (fun j u hu => by rw [Nat.zero_add]; exact yM j u hu)
  have i34 : (Tryz.prog.info? 51).map (·.size) = some m.cells.length := by kernel_rfl
  have i34 := hid i34
  cases eT
  · have F : Hid (r = 112) := hid (by rw [← hr.out]; rfl)
    clear hr
    go_wp2
    refine wp_region_held_drew (S := (fun W => W.cell? ⟨b, 0, none⟩ = some (.int .i64 m.k) ∧ W.cell? ⟨b, 2, none⟩ = some (.int .i64 m.t) ∧ W.rangeAt b 0 m.cells)) (by kernel_rfl) ⟨y0, y2, yR.out⟩ (fun hHeld => ?_)
    refine wpAnyH_take (i := 0) (oi := { dst := some 28, op := Go.Op.move (Go.Operand.tmp 0), type := 3, pos := "mail.go:25", after := #[], guard := none }) (v := ?_) rfl (by kernel_rfl) (by kernel_rfl) (by kernel_rfl) (fun _ _ _ h => h) (Or.inl ⟨by rfl, ?_⟩) hHeld ?_
    rotate_left
    · intro W hSw
      (try dsimp only at hSw)
      go_simp
      (try with_reducible rfl)
    (try simp only [Act.put, List.setIfInBounds_toArray, List.set_cons_zero, List.set_cons_succ])
    refine wpAnyH_take (i := 1) (oi := { dst := some 29, op := Go.Op.fieldAddr 51 (Go.Operand.tmp 3) 2, type := 0, pos := "mail.go:25", after := #[], guard := none }) (v := ?_) rfl (by kernel_rfl) (by kernel_rfl) (by kernel_rfl) (fun _ _ _ h => h) (Or.inl ⟨by rfl, ?_⟩) hHeld ?_
    rotate_left
    · intro W hSw
      (try dsimp only at hSw)
      go_simp
      (try with_reducible rfl)
    (try simp only [Act.put, List.setIfInBounds_toArray, List.set_cons_zero, List.set_cons_succ])
    refine wpAnyH_take (i := 2) (oi := { dst := some 30, op := Go.Op.load 3 (Go.Operand.tmp 29), type := 3, pos := "mail.go:25", after := #[{ on := 1, ground := Go.Ground.data }], guard := none }) (v := ?_) rfl (by kernel_rfl) (by kernel_rfl) (by kernel_rfl) (fun _ _ _ h => h) (Or.inl ⟨by rfl, ?_⟩) hHeld ?_
    rotate_left
    · intro W hSw
      (try dsimp only at hSw)
      go_simp
      (try with_reducible rfl)
    (try simp only [Act.put, List.setIfInBounds_toArray, List.set_cons_zero, List.set_cons_succ])
    refine wpAnyH_take (i := 3) (oi := { dst := some 31, op := Go.Op.fieldAddr 51 (Go.Operand.tmp 3) 0, type := 0, pos := "mail.go:25", after := #[], guard := none }) (v := ?_) rfl (by kernel_rfl) (by kernel_rfl) (by kernel_rfl) (fun _ _ _ h => h) (Or.inl ⟨by rfl, ?_⟩) hHeld ?_
    rotate_left
    · intro W hSw
      (try dsimp only at hSw)
      go_simp
      (try with_reducible rfl)
    (try simp only [Act.put, List.setIfInBounds_toArray, List.set_cons_zero, List.set_cons_succ])
    refine wpAnyH_take (i := 4) (oi := { dst := some 32, op := Go.Op.load 3 (Go.Operand.tmp 31), type := 3, pos := "mail.go:25", after := #[{ on := 3, ground := Go.Ground.data }], guard := none }) (v := ?_) rfl (by kernel_rfl) (by kernel_rfl) (by kernel_rfl) (fun _ _ _ h => h) (Or.inl ⟨by rfl, ?_⟩) hHeld ?_
    rotate_left
    · intro W hSw
      (try dsimp only at hSw)
      go_simp
      (try with_reducible rfl)
    (try simp only [Act.put, List.setIfInBounds_toArray, List.set_cons_zero, List.set_cons_succ])
    refine wpAnyH_ready (rs := [5]) (by kernel_rfl) (by simp) ?_
    refine AllReadyH.cons (o := { dst := some 33, op := Go.Op.call { callee := Go.Callee.value (Go.Operand.func 92), args := #[Go.Operand.tmp 32], argTypes := #[3] }, type := 4, pos := "mail.go:25", after := #[{ on := 4, ground := Go.Ground.data }], guard := none }) rfl (fun K hK => ?_) AllReadyH.nil
    go_simp
    refine (C11.out _).mono ?_; rintro e w2 ⟨rfl, hw2⟩; subst hw2
    refine hK.out _ _ ⟨y0, y2, yR.out⟩ (fun hHeld => ?_)
    clear hK K
    (try simp only [Act.put, List.setIfInBounds_toArray, List.set_cons_zero, List.set_cons_succ])
    refine wpAnyH_ready (rs := [6]) (by kernel_rfl) (by simp) ?_
    refine AllReadyH.cons (o := { dst := some 34, op := Go.Op.call { callee := Go.Callee.value (Go.Operand.func 90), args := #[Go.Operand.tmp 28, Go.Operand.tmp 30, Go.Operand.tmp 33], argTypes := #[3, 3, 4] }, type := 4, pos := "mail.go:25", after := #[{ on := 0, ground := Go.Ground.data }, { on := 2, ground := Go.Ground.data }, { on := 5, ground := Go.Ground.data }, { on := 5, ground := Go.Ground.chain }], guard := none }) rfl (fun K hK => ?_) AllReadyH.nil
    go_simp
    refine (CT.out _).mono ?_; rintro e w2 ⟨rfl, hw2⟩; subst hw2
    refine hK.out _ _ ⟨y0, y2, yR.out⟩ (fun hHeld => ?_)
    clear hK K
    (try simp only [Act.put, List.setIfInBounds_toArray, List.set_cons_zero, List.set_cons_succ])
    refine wpAnyH_take (i := 7) (oi := { dst := some 35, op := Go.Op.unOp Go.UnOp.not 4 (Go.Operand.tmp 34), type := 4, pos := "mail.go:25", after := #[{ on := 6, ground := Go.Ground.data }], guard := none }) (v := ?_) rfl (by kernel_rfl) (by kernel_rfl) (by kernel_rfl) (fun _ _ _ h => h) (Or.inl ⟨by rfl, ?_⟩) hHeld ?_
    rotate_left
    · intro W hSw
      (try dsimp only at hSw)
      go_simp
      (try with_reducible rfl)
    (try simp only [Act.put, List.setIfInBounds_toArray, List.set_cons_zero, List.set_cons_succ])
    refine wpAnyH_take (i := 8) (oi := { dst := some 36, op := Go.Op.move (Go.Operand.tmp 35), type := 4, pos := "mail.go:25", after := #[{ on := 7, ground := Go.Ground.data }, { on := 6, ground := Go.Ground.chain }], guard := none }) (v := ?_) rfl (by kernel_rfl) (by kernel_rfl) (by kernel_rfl) (fun _ _ _ h => h) (Or.inl ⟨by rfl, ?_⟩) hHeld ?_
    rotate_left
    · intro W hSw
      (try dsimp only at hSw)
      go_simp
      (try with_reducible rfl)
    (try simp only [Act.put, List.setIfInBounds_toArray, List.set_cons_zero, List.set_cons_succ])
    refine wpAnyH_take (i := 9) (oi := { dst := some 37, op := Go.Op.load 51 (Go.Operand.tmp 3), type := 51, pos := "mail.go:25", after := #[{ on := 8, ground := Go.Ground.guard }], guard := some (8, false) }) (v := undef) rfl (by kernel_rfl) (by kernel_rfl) (by kernel_rfl) (fun _ _ _ h => h) (Or.inr ⟨by rfl, rfl⟩) hHeld ?_
    (try simp only [Act.put, List.setIfInBounds_toArray, List.set_cons_zero, List.set_cons_succ])
    refine wpAnyH_take (i := 10) (oi := { dst := some 38, op := Go.Op.call { callee := Go.Callee.value (Go.Operand.func 93), args := #[Go.Operand.tmp 37], argTypes := #[51] }, type := 4, pos := "mail.go:25", after := #[{ on := 9, ground := Go.Ground.data }, { on := 8, ground := Go.Ground.chain }, { on := 8, ground := Go.Ground.guard }], guard := some (8, false) }) (v := undef) rfl (by kernel_rfl) (by kernel_rfl) (by kernel_rfl) (fun _ _ _ h => h) (Or.inr ⟨by rfl, rfl⟩) hHeld ?_
    (try simp only [Act.put, List.setIfInBounds_toArray, List.set_cons_zero, List.set_cons_succ])
    refine wpAnyH_take (i := 11) (oi := { dst := some 39, op := Go.Op.pick (Go.Operand.tmp 36) (Go.Operand.const (Go.Value.bool true)) (Go.Operand.tmp 38), type := 4, pos := "mail.go:25", after := #[{ on := 8, ground := Go.Ground.data }, { on := 10, ground := Go.Ground.data }], guard := none }) (v := ?_) rfl (by kernel_rfl) (by kernel_rfl) (by kernel_rfl) (fun _ _ _ h => h) (Or.inl ⟨by rfl, ?_⟩) hHeld ?_
    rotate_left
    · intro W hSw
      (try dsimp only at hSw)
      go_simp
      (try with_reducible rfl)
    (try simp only [Act.put, List.setIfInBounds_toArray, List.set_cons_zero, List.set_cons_succ])
    refine wpAnyH_take (i := 12) (oi := { dst := some 27, op := Go.Op.assign (Go.Operand.tmp 39), type := 4, pos := "mail.go:25", after := #[{ on := 11, ground := Go.Ground.data }, { on := 10, ground := Go.Ground.chain }], guard := none }) (v := ?_) rfl (by kernel_rfl) (by kernel_rfl) (by kernel_rfl) (fun _ _ _ h => h) (Or.inl ⟨by rfl, ?_⟩) hHeld ?_
    rotate_left
    · intro W hSw
      (try dsimp only at hSw)
      go_simp
      (try with_reducible rfl)
    (try simp only [Act.put, List.setIfInBounds_toArray, List.set_cons_zero, List.set_cons_succ])
    refine wpAnyH_done (by kernel_rfl) ?_ _
    clear hHeld
    clear y0 y2 yM yR i34
    go_wp2
    go_ret
    exact ⟨by rw [F.out]; rfl, by have := b2 B3.out (bd w3); first | exact this | (rw [hbb.out]; exact this)⟩
  have hr : Hid ((if sB = true then 112 else E) = r) := hid (by rw [← hr.out]; rfl)
  go_wp2
  refine wp_region_held_drew (S := (fun W => W.cell? ⟨b, 0, none⟩ = some (.int .i64 m.k) ∧ W.cell? ⟨b, 2, none⟩ = some (.int .i64 m.t) ∧ W.rangeAt b 0 m.cells)) (by kernel_rfl) ⟨y0, y2, yR.out⟩ (fun hHeld => ?_)
  refine wpAnyH_take (i := 0) (oi := { dst := some 28, op := Go.Op.move (Go.Operand.tmp 0), type := 3, pos := "mail.go:25", after := #[], guard := none }) (v := ?_) rfl (by kernel_rfl) (by kernel_rfl) (by kernel_rfl) (fun _ _ _ h => h) (Or.inl ⟨by rfl, ?_⟩) hHeld ?_
  rotate_left
  · intro W hSw
    (try dsimp only at hSw)
    go_simp
    (try with_reducible rfl)
  (try simp only [Act.put, List.setIfInBounds_toArray, List.set_cons_zero, List.set_cons_succ])
  refine wpAnyH_take (i := 1) (oi := { dst := some 29, op := Go.Op.fieldAddr 51 (Go.Operand.tmp 3) 2, type := 0, pos := "mail.go:25", after := #[], guard := none }) (v := ?_) rfl (by kernel_rfl) (by kernel_rfl) (by kernel_rfl) (fun _ _ _ h => h) (Or.inl ⟨by rfl, ?_⟩) hHeld ?_
  rotate_left
  · intro W hSw
    (try dsimp only at hSw)
    go_simp
    (try with_reducible rfl)
  (try simp only [Act.put, List.setIfInBounds_toArray, List.set_cons_zero, List.set_cons_succ])
  refine wpAnyH_take (i := 2) (oi := { dst := some 30, op := Go.Op.load 3 (Go.Operand.tmp 29), type := 3, pos := "mail.go:25", after := #[{ on := 1, ground := Go.Ground.data }], guard := none }) (v := ?_) rfl (by kernel_rfl) (by kernel_rfl) (by kernel_rfl) (fun _ _ _ h => h) (Or.inl ⟨by rfl, ?_⟩) hHeld ?_
  rotate_left
  · intro W hSw
    (try dsimp only at hSw)
    go_simp
    (try with_reducible rfl)
  (try simp only [Act.put, List.setIfInBounds_toArray, List.set_cons_zero, List.set_cons_succ])
  refine wpAnyH_take (i := 3) (oi := { dst := some 31, op := Go.Op.fieldAddr 51 (Go.Operand.tmp 3) 0, type := 0, pos := "mail.go:25", after := #[], guard := none }) (v := ?_) rfl (by kernel_rfl) (by kernel_rfl) (by kernel_rfl) (fun _ _ _ h => h) (Or.inl ⟨by rfl, ?_⟩) hHeld ?_
  rotate_left
  · intro W hSw
    (try dsimp only at hSw)
    go_simp
    (try with_reducible rfl)
  (try simp only [Act.put, List.setIfInBounds_toArray, List.set_cons_zero, List.set_cons_succ])
  refine wpAnyH_take (i := 4) (oi := { dst := some 32, op := Go.Op.load 3 (Go.Operand.tmp 31), type := 3, pos := "mail.go:25", after := #[{ on := 3, ground := Go.Ground.data }], guard := none }) (v := ?_) rfl (by kernel_rfl) (by kernel_rfl) (by kernel_rfl) (fun _ _ _ h => h) (Or.inl ⟨by rfl, ?_⟩) hHeld ?_
  rotate_left
  · intro W hSw
    (try dsimp only at hSw)
    go_simp
    (try with_reducible rfl)
  (try simp only [Act.put, List.setIfInBounds_toArray, List.set_cons_zero, List.set_cons_succ])
  refine wpAnyH_ready (rs := [5]) (by kernel_rfl) (by simp) ?_
  refine AllReadyH.cons (o := { dst := some 33, op := Go.Op.call { callee := Go.Callee.value (Go.Operand.func 92), args := #[Go.Operand.tmp 32], argTypes := #[3] }, type := 4, pos := "mail.go:25", after := #[{ on := 4, ground := Go.Ground.data }], guard := none }) rfl (fun K hK => ?_) AllReadyH.nil
  go_simp
  refine (C11.out _).mono ?_; rintro e w2 ⟨rfl, hw2⟩; subst hw2
  refine hK.out _ _ ⟨y0, y2, yR.out⟩ (fun hHeld => ?_)
  clear hK K
  (try simp only [Act.put, List.setIfInBounds_toArray, List.set_cons_zero, List.set_cons_succ])
  refine wpAnyH_ready (rs := [6]) (by kernel_rfl) (by simp) ?_
  refine AllReadyH.cons (o := { dst := some 34, op := Go.Op.call { callee := Go.Callee.value (Go.Operand.func 90), args := #[Go.Operand.tmp 28, Go.Operand.tmp 30, Go.Operand.tmp 33], argTypes := #[3, 3, 4] }, type := 4, pos := "mail.go:25", after := #[{ on := 0, ground := Go.Ground.data }, { on := 2, ground := Go.Ground.data }, { on := 5, ground := Go.Ground.data }, { on := 5, ground := Go.Ground.chain }], guard := none }) rfl (fun K hK => ?_) AllReadyH.nil
  go_simp
  refine (CT.out _).mono ?_; rintro e w2 ⟨rfl, hw2⟩; subst hw2
  refine hK.out _ _ ⟨y0, y2, yR.out⟩ (fun hHeld => ?_)
  clear hK K
  (try simp only [Act.put, List.setIfInBounds_toArray, List.set_cons_zero, List.set_cons_succ])
  refine wpAnyH_take (i := 7) (oi := { dst := some 35, op := Go.Op.unOp Go.UnOp.not 4 (Go.Operand.tmp 34), type := 4, pos := "mail.go:25", after := #[{ on := 6, ground := Go.Ground.data }], guard := none }) (v := ?_) rfl (by kernel_rfl) (by kernel_rfl) (by kernel_rfl) (fun _ _ _ h => h) (Or.inl ⟨by rfl, ?_⟩) hHeld ?_
  rotate_left
  · intro W hSw
    (try dsimp only at hSw)
    go_simp
    (try with_reducible rfl)
  (try simp only [Act.put, List.setIfInBounds_toArray, List.set_cons_zero, List.set_cons_succ])
  refine wpAnyH_take (i := 8) (oi := { dst := some 36, op := Go.Op.move (Go.Operand.tmp 35), type := 4, pos := "mail.go:25", after := #[{ on := 7, ground := Go.Ground.data }, { on := 6, ground := Go.Ground.chain }], guard := none }) (v := ?_) rfl (by kernel_rfl) (by kernel_rfl) (by kernel_rfl) (fun _ _ _ h => h) (Or.inl ⟨by rfl, ?_⟩) hHeld ?_
  rotate_left
  · intro W hSw
    (try dsimp only at hSw)
    go_simp
    (try with_reducible rfl)
  (try simp only [Act.put, List.setIfInBounds_toArray, List.set_cons_zero, List.set_cons_succ])
  refine wpAnyH_take (i := 9) (oi := { dst := some 37, op := Op.load 51 (Operand.tmp 3), type := 51, pos := "mail.go:25", after := #[{ on := 8, ground := Ground.guard }], guard := some (8, false) }) (v := .agg m.cells.toArray) rfl (by kernel_rfl) (by kernel_rfl) (by kernel_rfl) (fun _ _ _ h => h) (yieldsIf_load_mid (by rfl) 51 (.tmp 3) rfl b 0 rfl m.cells _ (fun W hW => hW.2.2) Tryz.underlying51 rfl i34.out) hHeld ?_
  (try simp only [Act.put, List.setIfInBounds_toArray, List.set_cons_zero, List.set_cons_succ])
  refine wpAnyH_ready (rs := [10]) (by kernel_rfl) (by simp) ?_
  refine AllReadyH.cons (o := { dst := some 38, op := Go.Op.call { callee := Go.Callee.value (Go.Operand.func 93), args := #[Go.Operand.tmp 37], argTypes := #[51] }, type := 4, pos := "mail.go:25", after := #[{ on := 9, ground := Go.Ground.data }, { on := 8, ground := Go.Ground.chain }, { on := 8, ground := Go.Ground.guard }], guard := some (8, false) }) rfl (fun K hK => ?_) AllReadyH.nil
  go_simp
  refine (C33.out _).mono ?_; rintro e w4 ⟨rfl, hb4⟩; have M4 := hid ((M3.out.under (bd w3)).under hb4); have B4 := hid (b2 (b2 B3.out (bd w3)) hb4); have z0 := M4.out 0 _ rfl; have z2 := M4.out 2 _ rfl
  refine hK.out _ _ ⟨z0, z2, fun j u hu => by rw [Nat.zero_add]; exact M4.out j u hu⟩ (fun hHeld => ?_)
  clear hK K
  (try simp only [Act.put, List.setIfInBounds_toArray, List.set_cons_zero, List.set_cons_succ])
  refine wpAnyH_take (i := 11) (oi := { dst := some 39, op := Go.Op.pick (Go.Operand.tmp 36) (Go.Operand.const (Go.Value.bool true)) (Go.Operand.tmp 38), type := 4, pos := "mail.go:25", after := #[{ on := 8, ground := Go.Ground.data }, { on := 10, ground := Go.Ground.data }], guard := none }) (v := ?_) rfl (by kernel_rfl) (by kernel_rfl) (by kernel_rfl) (fun _ _ _ h => h) (Or.inl ⟨by rfl, ?_⟩) hHeld ?_
  rotate_left
  · intro W hSw
    (try dsimp only at hSw)
    go_simp
    (try with_reducible rfl)
  (try simp only [Act.put, List.setIfInBounds_toArray, List.set_cons_zero, List.set_cons_succ])
  refine wpAnyH_take (i := 12) (oi := { dst := some 27, op := Go.Op.assign (Go.Operand.tmp 39), type := 4, pos := "mail.go:25", after := #[{ on := 11, ground := Go.Ground.data }, { on := 10, ground := Go.Ground.chain }], guard := none }) (v := ?_) rfl (by kernel_rfl) (by kernel_rfl) (by kernel_rfl) (fun _ _ _ h => h) (Or.inl ⟨by rfl, ?_⟩) hHeld ?_
  rotate_left
  · intro W hSw
    (try dsimp only at hSw)
    go_simp
    (try with_reducible rfl)
  (try simp only [Act.put, List.setIfInBounds_toArray, List.set_cons_zero, List.set_cons_succ])
  refine wpAnyH_done (by kernel_rfl) ?_ _
  clear hHeld
  clear y0 y2 yM z0 z2 yR i34
  cases sB
  rotate_left
  · have F : Hid (r = 112) := hid (by rw [← hr.out]; rfl)
    clear hr
    go_wp2
    go_ret
    exact ⟨by rw [F.out]; rfl, by first | exact B4.out | (rw [hbb.out]; exact B4.out)⟩
  have F : Hid (r = E) := hid (by rw [← hr.out]; rfl)
  clear hr
  go_wp2_with fail
  refine (HH.out _ _ B4.out M4.out).mono ?_
  rintro e w5 ⟨rfl, hb5⟩
  have B5 := hid (b2 B4.out hb5)
  clear hb5
  go_wp2
  go_ret
  exact ⟨by rw [F.out]; rfl, by first | exact B5.out | (rw [hbb.out]; exact B5.out)⟩
end Go.Proofs.YtdhkdniddjnigaaGreatDoor

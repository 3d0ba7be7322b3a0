import Derived.Test.YteloaggebkbeeaaDoorJ14
namespace Go.Proofs.YteloaggebkbeeaaDoor
open Go.RowKit
set_option linter.unusedVariables false

set_option maxHeartbeats 3200000 in
set_option maxRecDepth 1000000 in
theorem tick_nq {P : Nat} {x : Px} {b m n1 n2 : Int} {cs : List Comp} {w : World} (h : All (pxL P x b m n1 n2 ++ cs) w) (hr : x.rq.okL) (hq : x.qu.okL) (h1 : 1 ≤ n1) (h2 : n1 ≤ m) (h3 : m ≤ 1024) (g1 : 1 ≤ n2) (g2 : n2 ≤ m) (N : Nat) (hN : x.n = (N : Int)) (hN7 : 1 ≤ N ∧ N ≤ 7) (hw : 0 ≤ x.who) (hw2 : x.who ≤ 7) (ha : 0 ≤ x.again) (ha2 : x.again ≤ 4611686018427387904) (dr : x.rq.due = false) (dq : x.qu.due = true) :
    Calls Tryd.prog 14 #[.pointer (some ⟨P, 0, none⟩)] w fun e w' => ∃ v, e = .returned v ∧ All (msC v (([] : List Ms) ++ [asM x.id ((x.who + x.again).tmod x.n) x.least x.qu]) :: (pxL P { x with rq := x.rq.tick n1, qu := x.qu.tick n2, again := x.again + 1 } b m (x.rq.now n1 m) (x.qu.now n2 m) ++ cs)) w' := by
  have T33R : Hid (Calls Tryd.prog 33 #[.pointer (some ⟨P, 4, none⟩)] w fun e w' => e = .returned (.bool false) ∧ All (pxL P { x with rq := x.rq.tick n1 } b m (x.rq.now n1 m) n2 ++ cs) w') := hid (by have := tick33R h hr h1 h2 h3; rw [dr] at this; exact this)
  have T33Q : Hid (∀ W c, All (c :: (pxL P { x with rq := x.rq.tick n1 } b m (x.rq.now n1 m) n2 ++ cs)) W → Calls Tryd.prog 33 #[.pointer (some ⟨P, 13, none⟩)] W fun e w' => e = .returned (.bool true) ∧ All (c :: (pxL P { x with rq := x.rq.tick n1, qu := x.qu.tick n2 } b m (x.rq.now n1 m) (x.qu.now n2 m) ++ cs)) w') := hid (fun W c hW => by
    have := tick33Q (x := { x with rq := x.rq.tick n1 }) (cs := c :: cs) (hW.perm (List.perm_middle (l₁ := pxL P { x with rq := x.rq.tick n1 } b m (x.rq.now n1 m) n2)).symm) hq g1 g2 h3
    rw [show ({ x with rq := x.rq.tick n1 } : Px).qu.due = true from dq] at this
    refine this.mono ?_
    rintro e w' ⟨a1, a2⟩
    exact ⟨a1, a2.perm (List.perm_middle (l₁ := pxL P { x with rq := x.rq.tick n1, qu := x.qu.tick n2 } b m (x.rq.now n1 m) (x.qu.now n2 m)))⟩)
  have hN7 := hid hN7
  obtain ⟨to', hto⟩ : ∃ t, Hid (t = (x.who + x.again).tmod x.n) := ⟨_, hid rfl⟩
  have C34 : Hid (∀ W c, All (c :: (pxL P { x with rq := x.rq.tick n1, qu := x.qu.tick n2 } b m (x.rq.now n1 m) (x.qu.now n2 m) ++ cs)) W → Calls Tryd.prog 34 #[.pointer (some ⟨P, 13, none⟩), .int .i64 x.n] W fun e w' => e = .returned (.int .i64 to') ∧ All (c :: (pxL P { x with rq := x.rq.tick n1, qu := x.qu.tick n2, again := x.again + 1 } b m (x.rq.now n1 m) (x.qu.now n2 m) ++ cs)) w') := hid (fun W c hW => by
    have := next34 (x := { x with rq := x.rq.tick n1, qu := x.qu.tick n2 }) (cs := c :: cs) (hW.perm (List.perm_middle (l₁ := pxL P { x with rq := x.rq.tick n1, qu := x.qu.tick n2 } b m (x.rq.now n1 m) (x.qu.now n2 m))).symm) x.n (by have := hN7.out; omega) hw hw2 ha ha2
    rw [← hto.out] at this
    refine this.mono ?_
    rintro e w' ⟨a1, a2⟩
    exact ⟨a1, a2.perm (List.perm_middle (l₁ := pxL P { x with rq := x.rq.tick n1, qu := x.qu.tick n2, again := x.again + 1 } b m (x.rq.now n1 m) (x.qu.now n2 m)))⟩)
  have C32 : Hid (∀ W c, All (c :: (pxL P { x with rq := x.rq.tick n1, qu := x.qu.tick n2, again := x.again + 1 } b m (x.rq.now n1 m) (x.qu.now n2 m) ++ cs)) W → Calls Tryd.prog 32 #[.pointer (some ⟨P, 13, none⟩), .int .i64 x.id, .int .i64 to'] W fun e w' => e = .returned (.agg (asM x.id to' x.least x.qu).cells.toArray) ∧ Below W.heap.size W w') := hid (fun W c hW => by
    have := msgQ (x := { x with rq := x.rq.tick n1, qu := x.qu.tick n2, again := x.again + 1 }) (cs := c :: cs) (hW.perm (List.perm_middle (l₁ := pxL P { x with rq := x.rq.tick n1, qu := x.qu.tick n2, again := x.again + 1 } b m (x.rq.now n1 m) (x.qu.now n2 m))).symm) x.id to'
    rw [show asM x.id to' ({ x with rq := x.rq.tick n1, qu := x.qu.tick n2, again := x.again + 1 } : Px).least ({ x with rq := x.rq.tick n1, qu := x.qu.tick n2, again := x.again + 1 } : Px).qu = asM x.id to' x.least x.qu from asM_tick _ _ _ _ _] at this
    exact this)
  have SY : Hid (∀ W c, All (c :: (pxL P { x with rq := x.rq.tick n1, qu := x.qu.tick n2 } b m (x.rq.now n1 m) (x.qu.now n2 m) ++ cs)) W → (fun W => W.cell? ⟨P, 1, none⟩ = some (.int .i64 x.id) ∧ W.cell? ⟨P, 0, none⟩ = some (.int .i64 x.n)) W) := hid (fun W c hW => ⟨by rw [cell_at hW.tail.1.2.1]; rfl, by rw [cell_at hW.tail.1.2.1]; rfl⟩)
  have SZ : Hid (∀ W c, All (c :: (pxL P { x with rq := x.rq.tick n1, qu := x.qu.tick n2, again := x.again + 1 } b m (x.rq.now n1 m) (x.qu.now n2 m) ++ cs)) W → (fun W => W.cell? ⟨P, 1, none⟩ = some (.int .i64 x.id) ∧ W.cell? ⟨P, 0, none⟩ = some (.int .i64 x.n)) W) := hid (fun W c hW => ⟨by rw [cell_at hW.tail.1.2.1]; rfl, by rw [cell_at hW.tail.1.2.1]; rfl⟩)
  rw [← hto.out]
  obtain ⟨ie2, z2, bq⟩ := bs41 (asM x.id to' x.least x.qu)
  have BQ := hid bq
  obtain ⟨MQ, hMQ⟩ : ∃ MQ, Hid (MQ = (asM x.id to' x.least x.qu).cells) := ⟨_, hid rfl⟩
  rw [← hMQ.out] at BQ C32
  have hLL : Hid ((([] : List Ms)).length = 0) := hid (rfl)
  clear bq
  clear hr hq h1 h2 h3 g1 g2 hw hw2 ha ha2 dr dq
  clear h hN
  go_enter Tryd.func14, Tryd.ntmps14
  go_wp2_with fail
  refine T33R.out.mono ?_
  rintro e w1 ⟨rfl, hw1⟩
  have A2 : Hid (All (msC (.slice none 0 0) ([] : List Ms) :: (pxL P { x with rq := x.rq.tick n1 } b m (x.rq.now n1 m) n2 ++ cs)) w1) := hid hw1.addRow0
  clear hw1 T33R
  go_wp2_with fail
  refine (T33Q.out _ _ A2.out).mono ?_
  rintro e w3 ⟨rfl, hw3⟩
  have A3 := hid hw3
  clear hw3 A2
  go_upto_region 9 with fail
  have A3 := hid A3.out.drew
  have p0 := hid (SY.out _ _ A3.out)
  refine wp_region_held_drew (S := (fun W => W.cell? ⟨P, 1, none⟩ = some (.int .i64 x.id) ∧ W.cell? ⟨P, 0, none⟩ = some (.int .i64 x.n))) (by kernel_rfl) p0.out (fun hHeld => ?_)
  refine wpAnyH_take (i := 0) (oi := { dst := some 35, op := Go.Op.move (Go.Operand.tmp 3), type := 49, pos := "proxy.go:104", after := #[], guard := none }) (v := ?_) rfl (by kernel_rfl) (by kernel_rfl) (by kernel_rfl) (fun _ _ _ h => h) (Or.inl ⟨by rfl, ?_⟩) hHeld ?_
  rotate_left
  · intro W hSw
    (try dsimp only at hSw)
    go_simp
    (try with_reducible rfl)
  (try simp only [Act.put, List.setIfInBounds_toArray, List.set_cons_zero, List.set_cons_succ])
  refine wpAnyH_take (i := 1) (oi := { dst := some 36, op := Go.Op.move (Go.Operand.tmp 0), type := 26, pos := "proxy.go:104", after := #[], guard := none }) (v := ?_) rfl (by kernel_rfl) (by kernel_rfl) (by kernel_rfl) (fun _ _ _ h => h) (Or.inl ⟨by rfl, ?_⟩) hHeld ?_
  rotate_left
  · intro W hSw
    (try dsimp only at hSw)
    go_simp
    (try with_reducible rfl)
  (try simp only [Act.put, List.setIfInBounds_toArray, List.set_cons_zero, List.set_cons_succ])
  refine wpAnyH_take (i := 2) (oi := { dst := some 37, op := Go.Op.nilCheck (Go.Operand.tmp 36), type := 0, pos := "proxy.go:104", after := #[{ on := 1, ground := Go.Ground.data }], guard := none }) (v := ?_) rfl (by kernel_rfl) (by kernel_rfl) (by kernel_rfl) (fun _ _ _ h => h) (Or.inl ⟨by rfl, ?_⟩) hHeld ?_
  rotate_left
  · intro W hSw
    (try dsimp only at hSw)
    go_simp
    (try with_reducible rfl)
  (try simp only [Act.put, List.setIfInBounds_toArray, List.set_cons_zero, List.set_cons_succ])
  refine wpAnyH_take (i := 3) (oi := { dst := some 38, op := Go.Op.fieldAddr 74 (Go.Operand.tmp 37) 5, type := 0, pos := "proxy.go:104", after := #[{ on := 2, ground := Go.Ground.data }], guard := none }) (v := ?_) rfl (by kernel_rfl) (by kernel_rfl) (by kernel_rfl) (fun _ _ _ h => h) (Or.inl ⟨by rfl, ?_⟩) hHeld ?_
  rotate_left
  · intro W hSw
    (try dsimp only at hSw)
    go_simp
    (try with_reducible rfl)
  (try simp only [Act.put, List.setIfInBounds_toArray, List.set_cons_zero, List.set_cons_succ])
  refine wpAnyH_take (i := 4) (oi := { dst := some 39, op := Go.Op.move (Go.Operand.tmp 0), type := 26, pos := "proxy.go:104", after := #[], guard := none }) (v := ?_) rfl (by kernel_rfl) (by kernel_rfl) (by kernel_rfl) (fun _ _ _ h => h) (Or.inl ⟨by rfl, ?_⟩) hHeld ?_
  rotate_left
  · intro W hSw
    (try dsimp only at hSw)
    go_simp
    (try with_reducible rfl)
  (try simp only [Act.put, List.setIfInBounds_toArray, List.set_cons_zero, List.set_cons_succ])
  refine wpAnyH_take (i := 5) (oi := { dst := some 40, op := Go.Op.nilCheck (Go.Operand.tmp 39), type := 0, pos := "proxy.go:104", after := #[{ on := 4, ground := Go.Ground.data }], guard := none }) (v := ?_) rfl (by kernel_rfl) (by kernel_rfl) (by kernel_rfl) (fun _ _ _ h => h) (Or.inl ⟨by rfl, ?_⟩) hHeld ?_
  rotate_left
  · intro W hSw
    (try dsimp only at hSw)
    go_simp
    (try with_reducible rfl)
  (try simp only [Act.put, List.setIfInBounds_toArray, List.set_cons_zero, List.set_cons_succ])
  refine wpAnyH_take (i := 6) (oi := { dst := some 41, op := Go.Op.fieldAddr 74 (Go.Operand.tmp 40) 1, type := 0, pos := "proxy.go:104", after := #[{ on := 5, ground := Go.Ground.data }], guard := none }) (v := ?_) rfl (by kernel_rfl) (by kernel_rfl) (by kernel_rfl) (fun _ _ _ h => h) (Or.inl ⟨by rfl, ?_⟩) hHeld ?_
  rotate_left
  · intro W hSw
    (try dsimp only at hSw)
    go_simp
    (try with_reducible rfl)
  (try simp only [Act.put, List.setIfInBounds_toArray, List.set_cons_zero, List.set_cons_succ])
  refine wpAnyH_take (i := 7) (oi := { dst := some 42, op := Go.Op.load 3 (Go.Operand.tmp 41), type := 3, pos := "proxy.go:104", after := #[{ on := 6, ground := Go.Ground.data }], guard := none }) (v := ?_) rfl (by kernel_rfl) (by kernel_rfl) (by kernel_rfl) (fun _ _ _ h => h) (Or.inl ⟨by rfl, ?_⟩) hHeld ?_
  rotate_left
  · intro W hSw
    (try dsimp only at hSw)
    go_simp
    (try with_reducible rfl)
  (try simp only [Act.put, List.setIfInBounds_toArray, List.set_cons_zero, List.set_cons_succ])
  refine wpAnyH_take (i := 8) (oi := { dst := some 43, op := Go.Op.move (Go.Operand.tmp 0), type := 26, pos := "proxy.go:104", after := #[], guard := none }) (v := ?_) rfl (by kernel_rfl) (by kernel_rfl) (by kernel_rfl) (fun _ _ _ h => h) (Or.inl ⟨by rfl, ?_⟩) hHeld ?_
  rotate_left
  · intro W hSw
    (try dsimp only at hSw)
    go_simp
    (try with_reducible rfl)
  (try simp only [Act.put, List.setIfInBounds_toArray, List.set_cons_zero, List.set_cons_succ])
  refine wpAnyH_take (i := 9) (oi := { dst := some 44, op := Go.Op.nilCheck (Go.Operand.tmp 43), type := 0, pos := "proxy.go:104", after := #[{ on := 8, ground := Go.Ground.data }], guard := none }) (v := ?_) rfl (by kernel_rfl) (by kernel_rfl) (by kernel_rfl) (fun _ _ _ h => h) (Or.inl ⟨by rfl, ?_⟩) hHeld ?_
  rotate_left
  · intro W hSw
    (try dsimp only at hSw)
    go_simp
    (try with_reducible rfl)
  (try simp only [Act.put, List.setIfInBounds_toArray, List.set_cons_zero, List.set_cons_succ])
  refine wpAnyH_take (i := 10) (oi := { dst := some 45, op := Go.Op.fieldAddr 74 (Go.Operand.tmp 44) 5, type := 0, pos := "proxy.go:104", after := #[{ on := 9, ground := Go.Ground.data }], guard := none }) (v := ?_) rfl (by kernel_rfl) (by kernel_rfl) (by kernel_rfl) (fun _ _ _ h => h) (Or.inl ⟨by rfl, ?_⟩) hHeld ?_
  rotate_left
  · intro W hSw
    (try dsimp only at hSw)
    go_simp
    (try with_reducible rfl)
  (try simp only [Act.put, List.setIfInBounds_toArray, List.set_cons_zero, List.set_cons_succ])
  refine wpAnyH_take (i := 11) (oi := { dst := some 46, op := Go.Op.move (Go.Operand.tmp 0), type := 26, pos := "proxy.go:104", after := #[], guard := none }) (v := ?_) rfl (by kernel_rfl) (by kernel_rfl) (by kernel_rfl) (fun _ _ _ h => h) (Or.inl ⟨by rfl, ?_⟩) hHeld ?_
  rotate_left
  · intro W hSw
    (try dsimp only at hSw)
    go_simp
    (try with_reducible rfl)
  (try simp only [Act.put, List.setIfInBounds_toArray, List.set_cons_zero, List.set_cons_succ])
  refine wpAnyH_take (i := 12) (oi := { dst := some 47, op := Go.Op.nilCheck (Go.Operand.tmp 46), type := 0, pos := "proxy.go:104", after := #[{ on := 11, ground := Go.Ground.data }], guard := none }) (v := ?_) rfl (by kernel_rfl) (by kernel_rfl) (by kernel_rfl) (fun _ _ _ h => h) (Or.inl ⟨by rfl, ?_⟩) hHeld ?_
  rotate_left
  · intro W hSw
    (try dsimp only at hSw)
    go_simp
    (try with_reducible rfl)
  (try simp only [Act.put, List.setIfInBounds_toArray, List.set_cons_zero, List.set_cons_succ])
  refine wpAnyH_take (i := 13) (oi := { dst := some 48, op := Go.Op.fieldAddr 74 (Go.Operand.tmp 47) 0, type := 0, pos := "proxy.go:104", after := #[{ on := 12, ground := Go.Ground.data }], guard := none }) (v := ?_) rfl (by kernel_rfl) (by kernel_rfl) (by kernel_rfl) (fun _ _ _ h => h) (Or.inl ⟨by rfl, ?_⟩) hHeld ?_
  rotate_left
  · intro W hSw
    (try dsimp only at hSw)
    go_simp
    (try with_reducible rfl)
  (try simp only [Act.put, List.setIfInBounds_toArray, List.set_cons_zero, List.set_cons_succ])
  refine wpAnyH_take (i := 14) (oi := { dst := some 49, op := Go.Op.load 3 (Go.Operand.tmp 48), type := 3, pos := "proxy.go:104", after := #[{ on := 13, ground := Go.Ground.data }], guard := none }) (v := ?_) rfl (by kernel_rfl) (by kernel_rfl) (by kernel_rfl) (fun _ _ _ h => h) (Or.inl ⟨by rfl, ?_⟩) hHeld ?_
  rotate_left
  · intro W hSw
    (try dsimp only at hSw)
    go_simp
    (try with_reducible rfl)
  (try simp only [Act.put, List.setIfInBounds_toArray, List.set_cons_zero, List.set_cons_succ])
  refine wpAnyH_ready (rs := [15]) (by kernel_rfl) (by simp) ?_
  refine AllReadyH.cons (o := { dst := some 50, op := Go.Op.call { callee := Go.Callee.value (Go.Operand.func 34), args := #[Go.Operand.tmp 45, Go.Operand.tmp 49], argTypes := #[72, 3] }, type := 3, pos := "proxy.go:104", after := #[{ on := 10, ground := Go.Ground.data }, { on := 14, ground := Go.Ground.data }], guard := none }) rfl (fun K hK => ?_) AllReadyH.nil
  go_simp
  refine (C34.out _ _ A3.out).mono ?_; rintro e w4 ⟨rfl, hw4⟩; have A4 := hid hw4; have p1 := hid (SZ.out _ _ A4.out); clear hw4
  refine hK.out _ _ p1.out (fun hHeld => ?_)
  clear hK K
  (try simp only [Act.put, List.setIfInBounds_toArray, List.set_cons_zero, List.set_cons_succ])
  refine wpAnyH_ready (rs := [16]) (by kernel_rfl) (by simp) ?_
  refine AllReadyH.cons (o := { dst := some 51, op := Go.Op.call { callee := Go.Callee.value (Go.Operand.func 32), args := #[Go.Operand.tmp 38, Go.Operand.tmp 42, Go.Operand.tmp 50], argTypes := #[72, 3, 3] }, type := 41, pos := "proxy.go:104", after := #[{ on := 3, ground := Go.Ground.data }, { on := 7, ground := Go.Ground.data }, { on := 15, ground := Go.Ground.data }, { on := 15, ground := Go.Ground.chain }], guard := none }) rfl (fun K hK => ?_) AllReadyH.nil
  go_simp
  refine (C32.out _ _ A4.out).mono ?_; rintro e w5 ⟨rfl, hw5⟩; have A5 := hid (A4.out.later hw5); have p2 := hid (SZ.out _ _ A5.out); clear hw5
  refine hK.out _ _ p2.out (fun hHeld => ?_)
  clear hK K
  (try simp only [Act.put, List.setIfInBounds_toArray, List.set_cons_zero, List.set_cons_succ])
  refine wpAnyH_ready (rs := [17]) (by kernel_rfl) (by simp) ?_
  refine AllReadyH.cons (o := { dst := some 52, op := Go.Op.buildSlice 49 1 #[(0, Go.Operand.tmp 51)], type := 49, pos := "proxy.go:104", after := #[{ on := 16, ground := Go.Ground.data }], guard := none }) rfl (fun K hK => ?_) AllReadyH.nil
  rw [if_pos (by rfl)]
  refine wp_buildSlice 49 41 1 _ rfl MQ.toArray ie2 z2 und49 BQ.out.i BQ.out.o BQ.out.s BQ.out.p (fill_of BQ.out.f (by kernel_rfl)) ?_; have A6 := hid ((A5.out.addBlk MQ 41).swap); have p3 := hid (SZ.out _ _ (A6.out.swap.tail))
  refine hK.out _ _ p3.out (fun hHeld => ?_)
  clear hK K
  (try simp only [Act.put, List.setIfInBounds_toArray, List.set_cons_zero, List.set_cons_succ])
  rw [hMQ.out] at A6
  obtain ⟨ao, cap, w7, hr, hA7⟩ := appM A6.out (by rw [hLL.out]; have := hN7.out; omega)
  rw [hLL.out] at hr
  rw [← hMQ.out] at hr hA7
  have R := hid hr
  have A7 := hid (hA7.swap.tail)
  have p4 := hid (SZ.out _ _ A7.out)
  clear hr hA7
  refine wpAnyH_ready (rs := [18]) (by kernel_rfl) (by simp) ?_
  refine AllReadyH.cons (o := { dst := some 53, op := Go.Op.call { callee := Go.Callee.builtin Go.Builtin.append, args := #[Go.Operand.tmp 35, Go.Operand.tmp 52], argTypes := #[49, 49] }, type := 49, pos := "proxy.go:104", after := #[{ on := 0, ground := Go.Ground.data }, { on := 17, ground := Go.Ground.data }, { on := 16, ground := Go.Ground.chain }], guard := none }) rfl (fun K hK => ?_) AllReadyH.nil
  rw [if_pos (by rfl)]
  refine wp_append_run _ _ 49 rfl _ _ _ _ rfl rfl R.out ?_
  refine hK.out _ _ p4.out (fun hHeld => ?_)
  clear hK K
  (try simp only [Act.put, List.setIfInBounds_toArray, List.set_cons_zero, List.set_cons_succ])
  refine wpAnyH_take (i := 19) (oi := { dst := some 3, op := Go.Op.assign (Go.Operand.tmp 53), type := 49, pos := "proxy.go:104", after := #[{ on := 18, ground := Go.Ground.data }, { on := 18, ground := Go.Ground.chain }, { on := 0, ground := Go.Ground.phase }, { on := 1, ground := Go.Ground.phase }, { on := 2, ground := Go.Ground.phase }, { on := 3, ground := Go.Ground.phase }, { on := 4, ground := Go.Ground.phase }, { on := 5, ground := Go.Ground.phase }, { on := 6, ground := Go.Ground.phase }, { on := 7, ground := Go.Ground.phase }, { on := 8, ground := Go.Ground.phase }, { on := 9, ground := Go.Ground.phase }, { on := 10, ground := Go.Ground.phase }, { on := 11, ground := Go.Ground.phase }, { on := 12, ground := Go.Ground.phase }, { on := 13, ground := Go.Ground.phase }, { on := 14, ground := Go.Ground.phase }, { on := 15, ground := Go.Ground.phase }, { on := 16, ground := Go.Ground.phase }, { on := 17, ground := Go.Ground.phase }, { on := 18, ground := Go.Ground.phase }], guard := none }) (v := ?_) rfl (by kernel_rfl) (by kernel_rfl) (by kernel_rfl) (fun _ _ _ h => h) (Or.inl ⟨by rfl, ?_⟩) hHeld ?_
  rotate_left
  · intro W hSw
    (try dsimp only at hSw)
    go_simp
    (try with_reducible rfl)
  (try simp only [Act.put, List.setIfInBounds_toArray, List.set_cons_zero, List.set_cons_succ])
  refine wpAnyH_done (by kernel_rfl) ?_ _
  clear hHeld
  clear p0 p1 p2 p3 p4
  go_wp2
  go_ret
  exact ⟨_, rfl, A7.out⟩
end Go.Proofs.YteloaggebkbeeaaDoor

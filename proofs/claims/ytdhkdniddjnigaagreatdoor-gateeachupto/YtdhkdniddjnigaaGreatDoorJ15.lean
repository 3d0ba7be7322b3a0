import Derived.Test.YtdhkdniddjnigaaGreatDoorJ14
namespace Go.Proofs.YtdhkdniddjnigaaGreatDoor
open Go.RowKit
set_option linter.unusedVariables false

set_option maxHeartbeats 3200000 in
set_option maxRecDepth 1000000 in
/-- A Busy that fits what waits. -/
theorem step_busy {P : Nat} {x : Px} {b m n1 n2 : Int} {cs : List Comp} {w w0 : World} (h : All (pxL P x b m n1 n2 ++ cs) w) (hin : inC w0 ∈ cs) (mm : Ms) (ht : mm.t = x.id) (hk : mm.k = 3) (ha : (x.rq.wts && (x.rq.num == mm.q)) = true) (hC : ∀ W, Below w0.heap.size w0 W → Calls Tryz.prog 56 #[.int .i64 x.n, .agg mm.cells.toArray] W fun e w' => e = .returned (.int .i64 0) ∧ Below W.heap.size W w') :
    Calls Tryz.prog 36 #[.pointer (some ⟨P, 0, none⟩), .agg mm.cells.toArray] w fun e w' => e = .returned (.tuple #[.agg ([.bool false, .int .i64 0, .int .i64 0, .int .i64 0, .int .i64 0, .int .i64 0, .slice none 0 0] : List Value).toArray, .bool false]) ∧ All (pxL P ({ x with view := max x.view mm.v }) b m n1 n2 ++ cs) w' := by
  obtain ⟨M, hM⟩ : ∃ M, Hid (M = w.heap.size) := ⟨_, hid rfl⟩
  obtain ⟨G, hG⟩ : ∃ G, Hid (G = w.heap.size + 1) := ⟨_, hid rfl⟩
  have A1 : Hid (All (blkC M mm.cells 51 :: blkC G [.bool false, .int .i64 0, .int .i64 0, .int .i64 0, .int .i64 0, .int .i64 0, .slice none 0 0] 97 :: (pxL P x b m n1 n2 ++ cs)) ((w.alloc (.cells mm.cells.toArray 51)).alloc (.cells #[.bool false, .int .i64 0, .int .i64 0, .int .i64 0, .int .i64 0, .int .i64 0, .slice none 0 0] 97))) := hid (by
    have := ((h.addBlk mm.cells 51).addBlk [.bool false, .int .i64 0, .int .i64 0, .int .i64 0, .int .i64 0, .int .i64 0, .slice none 0 0] 97).swap
    simp only [World.size_alloc] at this
    rw [hM.out, hG.out]
    exact this)
  have C35 : Hid (∀ W, All (blkC M mm.cells 51 :: blkC G [.bool false, .int .i64 0, .int .i64 0, .int .i64 0, .int .i64 0, .int .i64 0, .slice none 0 0] 97 :: (pxL P x b m n1 n2 ++ cs)) W → Calls Tryz.prog 56 #[.int .i64 x.n, .agg mm.cells.toArray] W fun e w' => e = .returned (.int .i64 0) ∧ Below W.heap.size W w') := hid (fun W hW => hC W (hW.into (by simp [hin])))
  have C36 : Hid (∀ W, All (blkC M mm.cells 51 :: blkC G [.bool false, .int .i64 0, .int .i64 0, .int .i64 0, .int .i64 0, .int .i64 0, .slice none 0 0] 97 :: (pxL P x b m n1 n2 ++ cs)) W → Calls Tryz.prog 57 #[.pointer (some ⟨P, 4, none⟩), .int .i64 mm.q] W fun e w' => e = .returned (.bool true) ∧ w' = W) := hid (fun W hW => by
    have := awaitsR hW.tail.tail mm.q
    rw [ha] at this
    exact this)
  have SP : Hid (∀ W, All (blkC M mm.cells 51 :: blkC G [.bool false, .int .i64 0, .int .i64 0, .int .i64 0, .int .i64 0, .int .i64 0, .slice none 0 0] 97 :: (pxL P x b m n1 n2 ++ cs)) W → (fun W => W.cell? ⟨P, 0, none⟩ = some (.int .i64 x.n) ∧ W.cell? ⟨P, 1, none⟩ = some (.int .i64 x.id) ∧ W.cell? ⟨M, 2, none⟩ = some (.int .i64 mm.t) ∧ W.rangeAt M 0 mm.cells) W) := hid (fun W hW => ⟨by rw [cell_at hW.tail.tail.px]; rfl, by rw [cell_at hW.tail.tail.px]; rfl, by rw [cell_at hW.1.2.1]; rfl, fun j u hu => by rw [cell_at hW.1.2.1]; simpa using hu⟩)
  have SQ : Hid (∀ W, All (blkC M mm.cells 51 :: blkC G [.bool false, .int .i64 0, .int .i64 0, .int .i64 0, .int .i64 0, .int .i64 0, .slice none 0 0] 97 :: (pxL P x b m n1 n2 ++ cs)) W → (fun W => W.cell? ⟨M, 0, none⟩ = some (.int .i64 mm.k) ∧ W.cell? ⟨M, 8, none⟩ = some (.int .i64 mm.q) ∧ W.cell? ⟨M, 4, none⟩ = some (.int .i64 mm.n) ∧ W.cell? ⟨P, 23, none⟩ = some (.int .i64 x.least)) W) := hid (fun W hW => ⟨by rw [cell_at hW.1.2.1]; rfl, by rw [cell_at hW.1.2.1]; rfl, by rw [cell_at hW.1.2.1]; rfl, by rw [cell_at hW.tail.tail.px]; rfl⟩)
  have I41 : Hid ((Tryz.prog.info? 51).map (·.size) = some mm.cells.length) := hid (by have := info41 mm; simpa using this)
  have I48 : Hid ((Tryz.prog.info? 97).map (·.size) = some ([.bool false, .int .i64 0, .int .i64 0, .int .i64 0, .int .i64 0, .int .i64 0, .slice none 0 0] : List Value).toArray.size) := hid info48
  have O48 : Hid (([.bool false, .int .i64 0, .int .i64 0, .int .i64 0, .int .i64 0, .int .i64 0, .slice none 0 0] : List Value).toArray.all (·.oneCell') = true) := hid (by simp [Value.oneCell'])
  have Z48 : Hid (([.bool false, .int .i64 0, .int .i64 0, .int .i64 0, .int .i64 0, .int .i64 0, .slice none 0 0] : List Value).toArray.size = ([.bool false, .int .i64 0, .int .i64 0, .int .i64 0, .int .i64 0, .int .i64 0, .slice none 0 0] : List Value).toArray.size) := hid rfl
  have e1 : (mm.t != x.id) = false := by rw [ht]; simp
  have k2 : (mm.k == 2) = false := by rw [hk]; rfl
  have k3 : (mm.k == 3) = true := by rw [hk]; rfl
  clear h hin hC ht ha hk
  go_enter Tryz.func36, Tryz.ntmps36
  go_upto_region 1 with fail
  simp only [← hM.out]
  have eG : M + 1 = G := by rw [hM.out, hG.out]
  simp only [eG]
  clear eG
  generalize (w.alloc (.cells mm.cells.toArray 51)).alloc (.cells #[.bool false, .int .i64 0, .int .i64 0, .int .i64 0, .int .i64 0, .int .i64 0, .slice none 0 0] 97) = w1 at A1 ⊢
  have A2 := hid A1.out.drew
  have p0 := hid (SP.out _ A2.out)
  refine wp_region_held_drew (S := (fun W => W.cell? ⟨P, 0, none⟩ = some (.int .i64 x.n) ∧ W.cell? ⟨P, 1, none⟩ = some (.int .i64 x.id) ∧ W.cell? ⟨M, 2, none⟩ = some (.int .i64 mm.t) ∧ W.rangeAt M 0 mm.cells)) (by kernel_rfl) p0.out (fun hHeld => ?_)
  refine wpAnyH_take (i := 0) (oi := { dst := some 6, op := Go.Op.move (Go.Operand.tmp 0), type := 70, pos := "proxy.go:63", after := #[], guard := none }) (v := ?_) rfl (by kernel_rfl) (by kernel_rfl) (by kernel_rfl) (fun _ _ _ h => h) (Or.inl ⟨by rfl, ?_⟩) hHeld ?_
  rotate_left
  · intro W hSw
    (try dsimp only at hSw)
    go_simp
    (try with_reducible rfl)
  (try simp only [Act.put, List.setIfInBounds_toArray, List.set_cons_zero, List.set_cons_succ])
  refine wpAnyH_take (i := 1) (oi := { dst := some 7, op := Go.Op.nilCheck (Go.Operand.tmp 6), type := 0, pos := "proxy.go:63", after := #[{ on := 0, ground := Go.Ground.data }], guard := none }) (v := ?_) rfl (by kernel_rfl) (by kernel_rfl) (by kernel_rfl) (fun _ _ _ h => h) (Or.inl ⟨by rfl, ?_⟩) hHeld ?_
  rotate_left
  · intro W hSw
    (try dsimp only at hSw)
    go_simp
    (try with_reducible rfl)
  (try simp only [Act.put, List.setIfInBounds_toArray, List.set_cons_zero, List.set_cons_succ])
  refine wpAnyH_take (i := 2) (oi := { dst := some 8, op := Go.Op.fieldAddr 111 (Go.Operand.tmp 7) 0, type := 0, pos := "proxy.go:63", after := #[{ on := 1, ground := Go.Ground.data }], guard := none }) (v := ?_) rfl (by kernel_rfl) (by kernel_rfl) (by kernel_rfl) (fun _ _ _ h => h) (Or.inl ⟨by rfl, ?_⟩) hHeld ?_
  rotate_left
  · intro W hSw
    (try dsimp only at hSw)
    go_simp
    (try with_reducible rfl)
  (try simp only [Act.put, List.setIfInBounds_toArray, List.set_cons_zero, List.set_cons_succ])
  refine wpAnyH_take (i := 3) (oi := { dst := some 9, op := Go.Op.load 3 (Go.Operand.tmp 8), type := 3, pos := "proxy.go:63", after := #[{ on := 2, ground := Go.Ground.data }], guard := none }) (v := ?_) rfl (by kernel_rfl) (by kernel_rfl) (by kernel_rfl) (fun _ _ _ h => h) (Or.inl ⟨by rfl, ?_⟩) hHeld ?_
  rotate_left
  · intro W hSw
    (try dsimp only at hSw)
    go_simp
    (try with_reducible rfl)
  (try simp only [Act.put, List.setIfInBounds_toArray, List.set_cons_zero, List.set_cons_succ])
  refine wpAnyH_take (i := 4) (oi := { dst := some 10, op := Go.Op.load 51 (Go.Operand.tmp 3), type := 51, pos := "proxy.go:63", after := #[], guard := none }) (v := .agg mm.cells.toArray) rfl (by kernel_rfl) (by kernel_rfl) (by kernel_rfl) (fun _ _ _ h => h) (yieldsIf_load_mid (by rfl) 51 (.tmp 3) rfl M 0 rfl mm.cells _ (fun W hW => hW.2.2.2) Tryz.underlying51 rfl I41.out) hHeld ?_
  (try simp only [Act.put, List.setIfInBounds_toArray, List.set_cons_zero, List.set_cons_succ])
  refine wpAnyH_ready (rs := [5]) (by kernel_rfl) (by simp) ?_
  refine AllReadyH.cons (o := { dst := some 11, op := Go.Op.call { callee := Go.Callee.value (Go.Operand.func 56), args := #[Go.Operand.tmp 9, Go.Operand.tmp 10], argTypes := #[3, 51] }, type := 35, pos := "proxy.go:63", after := #[{ on := 3, ground := Go.Ground.data }, { on := 4, ground := Go.Ground.data }], guard := none }) rfl (fun K hK => ?_) AllReadyH.nil
  go_simp
  refine (C35.out _ A2.out).mono ?_; rintro e w3 ⟨rfl, BB⟩; have A3 := hid (A2.out.later BB); have p1 := hid (SP.out _ A3.out); clear BB
  refine hK.out _ _ p1.out (fun hHeld => ?_)
  clear hK K
  (try simp only [Act.put, List.setIfInBounds_toArray, List.set_cons_zero, List.set_cons_succ])
  refine wpAnyH_take (i := 6) (oi := { dst := some 12, op := Go.Op.binOp Go.BinOp.neq 35 (Go.Operand.tmp 11) (Go.Operand.const (Go.Value.int Go.IntKind.i64 0)) 35, type := 4, pos := "proxy.go:63", after := #[{ on := 5, ground := Go.Ground.data }], guard := none }) (v := ?_) rfl (by kernel_rfl) (by kernel_rfl) (by kernel_rfl) (fun _ _ _ h => h) (Or.inl ⟨by rfl, ?_⟩) hHeld ?_
  rotate_left
  · intro W hSw
    (try dsimp only at hSw)
    go_simp
    (try with_reducible rfl)
  (try simp only [Act.put, List.setIfInBounds_toArray, List.set_cons_zero, List.set_cons_succ])
  refine wpAnyH_take (i := 7) (oi := { dst := some 13, op := Go.Op.move (Go.Operand.tmp 12), type := 4, pos := "proxy.go:63", after := #[{ on := 6, ground := Go.Ground.data }, { on := 5, ground := Go.Ground.chain }], guard := none }) (v := ?_) rfl (by kernel_rfl) (by kernel_rfl) (by kernel_rfl) (fun _ _ _ h => h) (Or.inl ⟨by rfl, ?_⟩) hHeld ?_
  rotate_left
  · intro W hSw
    (try dsimp only at hSw)
    go_simp
    (try with_reducible rfl)
  (try simp only [Act.put, List.setIfInBounds_toArray, List.set_cons_zero, List.set_cons_succ])
  refine wpAnyH_take (i := 8) (oi := { dst := some 14, op := Go.Op.fieldAddr 51 (Go.Operand.tmp 3) 2, type := 0, pos := "proxy.go:63", after := #[{ on := 7, ground := Go.Ground.guard }], guard := some (7, false) }) (v := ?_) rfl (by kernel_rfl) (by kernel_rfl) (by kernel_rfl) (fun _ _ _ h => h) (Or.inl ⟨by rfl, ?_⟩) hHeld ?_
  rotate_left
  · intro W hSw
    (try dsimp only at hSw)
    go_simp
    (try with_reducible rfl)
  (try simp only [Act.put, List.setIfInBounds_toArray, List.set_cons_zero, List.set_cons_succ])
  refine wpAnyH_take (i := 9) (oi := { dst := some 15, op := Go.Op.load 3 (Go.Operand.tmp 14), type := 3, pos := "proxy.go:63", after := #[{ on := 8, ground := Go.Ground.data }, { on := 7, ground := Go.Ground.guard }], guard := some (7, false) }) (v := ?_) rfl (by kernel_rfl) (by kernel_rfl) (by kernel_rfl) (fun _ _ _ h => h) (Or.inl ⟨by rfl, ?_⟩) hHeld ?_
  rotate_left
  · intro W hSw
    (try dsimp only at hSw)
    go_simp
    (try with_reducible rfl)
  (try simp only [Act.put, List.setIfInBounds_toArray, List.set_cons_zero, List.set_cons_succ])
  refine wpAnyH_take (i := 10) (oi := { dst := some 16, op := Go.Op.move (Go.Operand.tmp 0), type := 70, pos := "proxy.go:63", after := #[{ on := 7, ground := Go.Ground.guard }], guard := some (7, false) }) (v := ?_) rfl (by kernel_rfl) (by kernel_rfl) (by kernel_rfl) (fun _ _ _ h => h) (Or.inl ⟨by rfl, ?_⟩) hHeld ?_
  rotate_left
  · intro W hSw
    (try dsimp only at hSw)
    go_simp
    (try with_reducible rfl)
  (try simp only [Act.put, List.setIfInBounds_toArray, List.set_cons_zero, List.set_cons_succ])
  refine wpAnyH_take (i := 11) (oi := { dst := some 17, op := Go.Op.nilCheck (Go.Operand.tmp 16), type := 0, pos := "proxy.go:63", after := #[{ on := 10, ground := Go.Ground.data }, { on := 7, ground := Go.Ground.guard }], guard := some (7, false) }) (v := ?_) rfl (by kernel_rfl) (by kernel_rfl) (by kernel_rfl) (fun _ _ _ h => h) (Or.inl ⟨by rfl, ?_⟩) hHeld ?_
  rotate_left
  · intro W hSw
    (try dsimp only at hSw)
    go_simp
    (try with_reducible rfl)
  (try simp only [Act.put, List.setIfInBounds_toArray, List.set_cons_zero, List.set_cons_succ])
  refine wpAnyH_take (i := 12) (oi := { dst := some 18, op := Go.Op.fieldAddr 111 (Go.Operand.tmp 17) 1, type := 0, pos := "proxy.go:63", after := #[{ on := 11, ground := Go.Ground.data }, { on := 7, ground := Go.Ground.guard }], guard := some (7, false) }) (v := ?_) rfl (by kernel_rfl) (by kernel_rfl) (by kernel_rfl) (fun _ _ _ h => h) (Or.inl ⟨by rfl, ?_⟩) hHeld ?_
  rotate_left
  · intro W hSw
    (try dsimp only at hSw)
    go_simp
    (try with_reducible rfl)
  (try simp only [Act.put, List.setIfInBounds_toArray, List.set_cons_zero, List.set_cons_succ])
  refine wpAnyH_take (i := 13) (oi := { dst := some 19, op := Go.Op.load 3 (Go.Operand.tmp 18), type := 3, pos := "proxy.go:63", after := #[{ on := 12, ground := Go.Ground.data }, { on := 7, ground := Go.Ground.guard }], guard := some (7, false) }) (v := ?_) rfl (by kernel_rfl) (by kernel_rfl) (by kernel_rfl) (fun _ _ _ h => h) (Or.inl ⟨by rfl, ?_⟩) hHeld ?_
  rotate_left
  · intro W hSw
    (try dsimp only at hSw)
    go_simp
    (try with_reducible rfl)
  (try simp only [Act.put, List.setIfInBounds_toArray, List.set_cons_zero, List.set_cons_succ])
  refine wpAnyH_take (i := 14) (oi := { dst := some 20, op := Go.Op.binOp Go.BinOp.neq 3 (Go.Operand.tmp 15) (Go.Operand.tmp 19) 3, type := 4, pos := "proxy.go:63", after := #[{ on := 9, ground := Go.Ground.data }, { on := 13, ground := Go.Ground.data }, { on := 7, ground := Go.Ground.guard }], guard := some (7, false) }) (v := ?_) rfl (by kernel_rfl) (by kernel_rfl) (by kernel_rfl) (fun _ _ _ h => h) (Or.inl ⟨by rfl, ?_⟩) hHeld ?_
  rotate_left
  · intro W hSw
    (try dsimp only at hSw)
    go_simp
    (try with_reducible rfl)
  (try simp only [Act.put, List.setIfInBounds_toArray, List.set_cons_zero, List.set_cons_succ])
  refine wpAnyH_take (i := 15) (oi := { dst := some 21, op := Go.Op.pick (Go.Operand.tmp 13) (Go.Operand.const (Go.Value.bool true)) (Go.Operand.tmp 20), type := 4, pos := "proxy.go:63", after := #[{ on := 7, ground := Go.Ground.data }, { on := 14, ground := Go.Ground.data }], guard := none }) (v := ?_) rfl (by kernel_rfl) (by kernel_rfl) (by kernel_rfl) (fun _ _ _ h => h) (Or.inl ⟨by rfl, ?_⟩) hHeld ?_
  rotate_left
  · intro W hSw
    (try dsimp only at hSw)
    go_simp
    (try with_reducible rfl)
  (try simp only [Act.put, List.setIfInBounds_toArray, List.set_cons_zero, List.set_cons_succ])
  refine wpAnyH_done (by kernel_rfl) ?_ _
  clear hHeld
  clear p0 p1 A1 A2 C35 SP
  go_upto_region 3 with fail
  have B3 := hid A3.out.drew
  have q3 := hid (SQ.out _ B3.out)
  refine wp_region_held_drew (S := (fun W => W.cell? ⟨M, 0, none⟩ = some (.int .i64 mm.k) ∧ W.cell? ⟨M, 8, none⟩ = some (.int .i64 mm.q) ∧ W.cell? ⟨M, 4, none⟩ = some (.int .i64 mm.n) ∧ W.cell? ⟨P, 23, none⟩ = some (.int .i64 x.least))) (by kernel_rfl) q3.out (fun hHeld => ?_)
  refine wpAnyH_take (i := 0) (oi := { dst := some 24, op := Go.Op.fieldAddr 51 (Go.Operand.tmp 3) 0, type := 0, pos := "proxy.go:67", after := #[], guard := none }) (v := ?_) rfl (by kernel_rfl) (by kernel_rfl) (by kernel_rfl) (fun _ _ _ h => h) (Or.inl ⟨by rfl, ?_⟩) hHeld ?_
  rotate_left
  · intro W hSw
    (try dsimp only at hSw)
    go_simp
    (try with_reducible rfl)
  (try simp only [Act.put, List.setIfInBounds_toArray, List.set_cons_zero, List.set_cons_succ])
  refine wpAnyH_take (i := 1) (oi := { dst := some 25, op := Go.Op.load 3 (Go.Operand.tmp 24), type := 3, pos := "proxy.go:67", after := #[{ on := 0, ground := Go.Ground.data }], guard := none }) (v := ?_) rfl (by kernel_rfl) (by kernel_rfl) (by kernel_rfl) (fun _ _ _ h => h) (Or.inl ⟨by rfl, ?_⟩) hHeld ?_
  rotate_left
  · intro W hSw
    (try dsimp only at hSw)
    go_simp
    (try with_reducible rfl)
  (try simp only [Act.put, List.setIfInBounds_toArray, List.set_cons_zero, List.set_cons_succ])
  refine wpAnyH_take (i := 2) (oi := { dst := some 26, op := Go.Op.binOp Go.BinOp.eql 3 (Go.Operand.tmp 25) (Go.Operand.const (Go.Value.int Go.IntKind.i64 2)) 3, type := 4, pos := "proxy.go:67", after := #[{ on := 1, ground := Go.Ground.data }], guard := none }) (v := ?_) rfl (by kernel_rfl) (by kernel_rfl) (by kernel_rfl) (fun _ _ _ h => h) (Or.inl ⟨by rfl, ?_⟩) hHeld ?_
  rotate_left
  · intro W hSw
    (try dsimp only at hSw)
    go_simp
    (try with_reducible rfl)
  (try simp only [Act.put, List.setIfInBounds_toArray, List.set_cons_zero, List.set_cons_succ])
  refine wpAnyH_take (i := 3) (oi := { dst := some 27, op := Go.Op.move (Go.Operand.tmp 26), type := 4, pos := "proxy.go:67", after := #[{ on := 2, ground := Go.Ground.data }], guard := none }) (v := ?_) rfl (by kernel_rfl) (by kernel_rfl) (by kernel_rfl) (fun _ _ _ h => h) (Or.inl ⟨by rfl, ?_⟩) hHeld ?_
  rotate_left
  · intro W hSw
    (try dsimp only at hSw)
    go_simp
    (try with_reducible rfl)
  (try simp only [Act.put, List.setIfInBounds_toArray, List.set_cons_zero, List.set_cons_succ])
  refine wpAnyH_take (i := 4) (oi := { dst := some 28, op := Go.Op.move (Go.Operand.tmp 0), type := 70, pos := "proxy.go:67", after := #[{ on := 3, ground := Go.Ground.guard }], guard := some (3, true) }) (v := undef) rfl (by kernel_rfl) (by kernel_rfl) (by kernel_rfl) (fun _ _ _ h => h) (Or.inr ⟨by rfl, rfl⟩) hHeld ?_
  (try simp only [Act.put, List.setIfInBounds_toArray, List.set_cons_zero, List.set_cons_succ])
  refine wpAnyH_take (i := 5) (oi := { dst := some 29, op := Go.Op.nilCheck (Go.Operand.tmp 28), type := 0, pos := "proxy.go:67", after := #[{ on := 4, ground := Go.Ground.data }, { on := 3, ground := Go.Ground.guard }], guard := some (3, true) }) (v := undef) rfl (by kernel_rfl) (by kernel_rfl) (by kernel_rfl) (fun _ _ _ h => h) (Or.inr ⟨by rfl, rfl⟩) hHeld ?_
  (try simp only [Act.put, List.setIfInBounds_toArray, List.set_cons_zero, List.set_cons_succ])
  refine wpAnyH_take (i := 6) (oi := { dst := some 30, op := Go.Op.fieldAddr 111 (Go.Operand.tmp 29) 4, type := 0, pos := "proxy.go:67", after := #[{ on := 5, ground := Go.Ground.data }, { on := 3, ground := Go.Ground.guard }], guard := some (3, true) }) (v := undef) rfl (by kernel_rfl) (by kernel_rfl) (by kernel_rfl) (fun _ _ _ h => h) (Or.inr ⟨by rfl, rfl⟩) hHeld ?_
  (try simp only [Act.put, List.setIfInBounds_toArray, List.set_cons_zero, List.set_cons_succ])
  refine wpAnyH_take (i := 7) (oi := { dst := some 31, op := Go.Op.fieldAddr 107 (Go.Operand.tmp 30) 0, type := 0, pos := "proxy.go:67", after := #[{ on := 6, ground := Go.Ground.data }, { on := 3, ground := Go.Ground.guard }], guard := some (3, true) }) (v := undef) rfl (by kernel_rfl) (by kernel_rfl) (by kernel_rfl) (fun _ _ _ h => h) (Or.inr ⟨by rfl, rfl⟩) hHeld ?_
  (try simp only [Act.put, List.setIfInBounds_toArray, List.set_cons_zero, List.set_cons_succ])
  refine wpAnyH_take (i := 8) (oi := { dst := some 32, op := Go.Op.fieldAddr 51 (Go.Operand.tmp 3) 8, type := 0, pos := "proxy.go:67", after := #[{ on := 3, ground := Go.Ground.guard }], guard := some (3, true) }) (v := undef) rfl (by kernel_rfl) (by kernel_rfl) (by kernel_rfl) (fun _ _ _ h => h) (Or.inr ⟨by rfl, rfl⟩) hHeld ?_
  (try simp only [Act.put, List.setIfInBounds_toArray, List.set_cons_zero, List.set_cons_succ])
  refine wpAnyH_take (i := 9) (oi := { dst := some 33, op := Go.Op.load 3 (Go.Operand.tmp 32), type := 3, pos := "proxy.go:67", after := #[{ on := 8, ground := Go.Ground.data }, { on := 3, ground := Go.Ground.guard }], guard := some (3, true) }) (v := undef) rfl (by kernel_rfl) (by kernel_rfl) (by kernel_rfl) (fun _ _ _ h => h) (Or.inr ⟨by rfl, rfl⟩) hHeld ?_
  (try simp only [Act.put, List.setIfInBounds_toArray, List.set_cons_zero, List.set_cons_succ])
  refine wpAnyH_take (i := 10) (oi := { dst := some 34, op := Go.Op.call { callee := Go.Callee.value (Go.Operand.func 57), args := #[Go.Operand.tmp 31, Go.Operand.tmp 33], argTypes := #[104, 3] }, type := 4, pos := "proxy.go:67", after := #[{ on := 7, ground := Go.Ground.data }, { on := 9, ground := Go.Ground.data }, { on := 3, ground := Go.Ground.chain }, { on := 3, ground := Go.Ground.guard }], guard := some (3, true) }) (v := undef) rfl (by kernel_rfl) (by kernel_rfl) (by kernel_rfl) (fun _ _ _ h => h) (Or.inr ⟨by rfl, rfl⟩) hHeld ?_
  (try simp only [Act.put, List.setIfInBounds_toArray, List.set_cons_zero, List.set_cons_succ])
  refine wpAnyH_take (i := 11) (oi := { dst := some 35, op := Go.Op.pick (Go.Operand.tmp 27) (Go.Operand.tmp 34) (Go.Operand.const (Go.Value.bool false)), type := 4, pos := "proxy.go:67", after := #[{ on := 3, ground := Go.Ground.data }, { on := 10, ground := Go.Ground.data }], guard := none }) (v := ?_) rfl (by kernel_rfl) (by kernel_rfl) (by kernel_rfl) (fun _ _ _ h => h) (Or.inl ⟨by rfl, ?_⟩) hHeld ?_
  rotate_left
  · intro W hSw
    (try dsimp only at hSw)
    go_simp
    (try with_reducible rfl)
  (try simp only [Act.put, List.setIfInBounds_toArray, List.set_cons_zero, List.set_cons_succ])
  refine wpAnyH_take (i := 12) (oi := { dst := some 23, op := Go.Op.assign (Go.Operand.tmp 35), type := 4, pos := "proxy.go:67", after := #[{ on := 11, ground := Go.Ground.data }, { on := 10, ground := Go.Ground.chain }], guard := none }) (v := ?_) rfl (by kernel_rfl) (by kernel_rfl) (by kernel_rfl) (fun _ _ _ h => h) (Or.inl ⟨by rfl, ?_⟩) hHeld ?_
  rotate_left
  · intro W hSw
    (try dsimp only at hSw)
    go_simp
    (try with_reducible rfl)
  (try simp only [Act.put, List.setIfInBounds_toArray, List.set_cons_zero, List.set_cons_succ])
  refine wpAnyH_done (by kernel_rfl) ?_ _
  clear hHeld
  go_upto_region 5 with fail
  have B5 := hid B3.out.drew
  have q5 := hid (SQ.out _ B5.out)
  refine wp_region_held_drew (S := (fun W => W.cell? ⟨M, 0, none⟩ = some (.int .i64 mm.k) ∧ W.cell? ⟨M, 8, none⟩ = some (.int .i64 mm.q) ∧ W.cell? ⟨M, 4, none⟩ = some (.int .i64 mm.n) ∧ W.cell? ⟨P, 23, none⟩ = some (.int .i64 x.least))) (by kernel_rfl) q5.out (fun hHeld => ?_)
  refine wpAnyH_take (i := 0) (oi := { dst := some 40, op := Go.Op.fieldAddr 51 (Go.Operand.tmp 3) 0, type := 0, pos := "proxy.go:69", after := #[], guard := none }) (v := ?_) rfl (by kernel_rfl) (by kernel_rfl) (by kernel_rfl) (fun _ _ _ h => h) (Or.inl ⟨by rfl, ?_⟩) hHeld ?_
  rotate_left
  · intro W hSw
    (try dsimp only at hSw)
    go_simp
    (try with_reducible rfl)
  (try simp only [Act.put, List.setIfInBounds_toArray, List.set_cons_zero, List.set_cons_succ])
  refine wpAnyH_take (i := 1) (oi := { dst := some 41, op := Go.Op.load 3 (Go.Operand.tmp 40), type := 3, pos := "proxy.go:69", after := #[{ on := 0, ground := Go.Ground.data }], guard := none }) (v := ?_) rfl (by kernel_rfl) (by kernel_rfl) (by kernel_rfl) (fun _ _ _ h => h) (Or.inl ⟨by rfl, ?_⟩) hHeld ?_
  rotate_left
  · intro W hSw
    (try dsimp only at hSw)
    go_simp
    (try with_reducible rfl)
  (try simp only [Act.put, List.setIfInBounds_toArray, List.set_cons_zero, List.set_cons_succ])
  refine wpAnyH_take (i := 2) (oi := { dst := some 42, op := Go.Op.binOp Go.BinOp.eql 3 (Go.Operand.tmp 41) (Go.Operand.const (Go.Value.int Go.IntKind.i64 3)) 3, type := 4, pos := "proxy.go:69", after := #[{ on := 1, ground := Go.Ground.data }], guard := none }) (v := ?_) rfl (by kernel_rfl) (by kernel_rfl) (by kernel_rfl) (fun _ _ _ h => h) (Or.inl ⟨by rfl, ?_⟩) hHeld ?_
  rotate_left
  · intro W hSw
    (try dsimp only at hSw)
    go_simp
    (try with_reducible rfl)
  (try simp only [Act.put, List.setIfInBounds_toArray, List.set_cons_zero, List.set_cons_succ])
  refine wpAnyH_take (i := 3) (oi := { dst := some 43, op := Go.Op.move (Go.Operand.tmp 42), type := 4, pos := "proxy.go:69", after := #[{ on := 2, ground := Go.Ground.data }], guard := none }) (v := ?_) rfl (by kernel_rfl) (by kernel_rfl) (by kernel_rfl) (fun _ _ _ h => h) (Or.inl ⟨by rfl, ?_⟩) hHeld ?_
  rotate_left
  · intro W hSw
    (try dsimp only at hSw)
    go_simp
    (try with_reducible rfl)
  (try simp only [Act.put, List.setIfInBounds_toArray, List.set_cons_zero, List.set_cons_succ])
  refine wpAnyH_take (i := 4) (oi := { dst := some 44, op := Go.Op.move (Go.Operand.tmp 0), type := 70, pos := "proxy.go:69", after := #[{ on := 3, ground := Go.Ground.guard }], guard := some (3, true) }) (v := ?_) rfl (by kernel_rfl) (by kernel_rfl) (by kernel_rfl) (fun _ _ _ h => h) (Or.inl ⟨by rfl, ?_⟩) hHeld ?_
  rotate_left
  · intro W hSw
    (try dsimp only at hSw)
    go_simp
    (try with_reducible rfl)
  (try simp only [Act.put, List.setIfInBounds_toArray, List.set_cons_zero, List.set_cons_succ])
  refine wpAnyH_take (i := 5) (oi := { dst := some 45, op := Go.Op.nilCheck (Go.Operand.tmp 44), type := 0, pos := "proxy.go:69", after := #[{ on := 4, ground := Go.Ground.data }, { on := 3, ground := Go.Ground.guard }], guard := some (3, true) }) (v := ?_) rfl (by kernel_rfl) (by kernel_rfl) (by kernel_rfl) (fun _ _ _ h => h) (Or.inl ⟨by rfl, ?_⟩) hHeld ?_
  rotate_left
  · intro W hSw
    (try dsimp only at hSw)
    go_simp
    (try with_reducible rfl)
  (try simp only [Act.put, List.setIfInBounds_toArray, List.set_cons_zero, List.set_cons_succ])
  refine wpAnyH_take (i := 6) (oi := { dst := some 46, op := Go.Op.fieldAddr 111 (Go.Operand.tmp 45) 4, type := 0, pos := "proxy.go:69", after := #[{ on := 5, ground := Go.Ground.data }, { on := 3, ground := Go.Ground.guard }], guard := some (3, true) }) (v := ?_) rfl (by kernel_rfl) (by kernel_rfl) (by kernel_rfl) (fun _ _ _ h => h) (Or.inl ⟨by rfl, ?_⟩) hHeld ?_
  rotate_left
  · intro W hSw
    (try dsimp only at hSw)
    go_simp
    (try with_reducible rfl)
  (try simp only [Act.put, List.setIfInBounds_toArray, List.set_cons_zero, List.set_cons_succ])
  refine wpAnyH_take (i := 7) (oi := { dst := some 47, op := Go.Op.fieldAddr 107 (Go.Operand.tmp 46) 0, type := 0, pos := "proxy.go:69", after := #[{ on := 6, ground := Go.Ground.data }, { on := 3, ground := Go.Ground.guard }], guard := some (3, true) }) (v := ?_) rfl (by kernel_rfl) (by kernel_rfl) (by kernel_rfl) (fun _ _ _ h => h) (Or.inl ⟨by rfl, ?_⟩) hHeld ?_
  rotate_left
  · intro W hSw
    (try dsimp only at hSw)
    go_simp
    (try with_reducible rfl)
  (try simp only [Act.put, List.setIfInBounds_toArray, List.set_cons_zero, List.set_cons_succ])
  refine wpAnyH_take (i := 8) (oi := { dst := some 48, op := Go.Op.fieldAddr 51 (Go.Operand.tmp 3) 8, type := 0, pos := "proxy.go:69", after := #[{ on := 3, ground := Go.Ground.guard }], guard := some (3, true) }) (v := ?_) rfl (by kernel_rfl) (by kernel_rfl) (by kernel_rfl) (fun _ _ _ h => h) (Or.inl ⟨by rfl, ?_⟩) hHeld ?_
  rotate_left
  · intro W hSw
    (try dsimp only at hSw)
    go_simp
    (try with_reducible rfl)
  (try simp only [Act.put, List.setIfInBounds_toArray, List.set_cons_zero, List.set_cons_succ])
  refine wpAnyH_take (i := 9) (oi := { dst := some 49, op := Go.Op.load 3 (Go.Operand.tmp 48), type := 3, pos := "proxy.go:69", after := #[{ on := 8, ground := Go.Ground.data }, { on := 3, ground := Go.Ground.guard }], guard := some (3, true) }) (v := ?_) rfl (by kernel_rfl) (by kernel_rfl) (by kernel_rfl) (fun _ _ _ h => h) (Or.inl ⟨by rfl, ?_⟩) hHeld ?_
  rotate_left
  · intro W hSw
    (try dsimp only at hSw)
    go_simp
    (try with_reducible rfl)
  (try simp only [Act.put, List.setIfInBounds_toArray, List.set_cons_zero, List.set_cons_succ])
  refine wpAnyH_ready (rs := [10]) (by kernel_rfl) (by simp) ?_
  refine AllReadyH.cons (o := { dst := some 50, op := Go.Op.call { callee := Go.Callee.value (Go.Operand.func 57), args := #[Go.Operand.tmp 47, Go.Operand.tmp 49], argTypes := #[104, 3] }, type := 4, pos := "proxy.go:69", after := #[{ on := 7, ground := Go.Ground.data }, { on := 9, ground := Go.Ground.data }, { on := 3, ground := Go.Ground.chain }, { on := 3, ground := Go.Ground.guard }], guard := some (3, true) }) rfl (fun K hK => ?_) AllReadyH.nil
  go_simp
  refine (C36.out _ B5.out).mono ?_; rintro e w5x ⟨rfl, hw4⟩; have D5 : Hid (All (blkC M mm.cells 51 :: blkC G [.bool false, .int .i64 0, .int .i64 0, .int .i64 0, .int .i64 0, .int .i64 0, .slice none 0 0] 97 :: (pxL P x b m n1 n2 ++ cs)) w5x) := hid (by rw [hw4]; exact B5.out); have r5 := hid (SQ.out _ D5.out); clear hw4
  refine hK.out _ _ r5.out (fun hHeld => ?_)
  clear hK K
  (try simp only [Act.put, List.setIfInBounds_toArray, List.set_cons_zero, List.set_cons_succ])
  refine wpAnyH_take (i := 11) (oi := { dst := some 51, op := Go.Op.pick (Go.Operand.tmp 43) (Go.Operand.tmp 50) (Go.Operand.const (Go.Value.bool false)), type := 4, pos := "proxy.go:69", after := #[{ on := 3, ground := Go.Ground.data }, { on := 10, ground := Go.Ground.data }], guard := none }) (v := ?_) rfl (by kernel_rfl) (by kernel_rfl) (by kernel_rfl) (fun _ _ _ h => h) (Or.inl ⟨by rfl, ?_⟩) hHeld ?_
  rotate_left
  · intro W hSw
    (try dsimp only at hSw)
    go_simp
    (try with_reducible rfl)
  (try simp only [Act.put, List.setIfInBounds_toArray, List.set_cons_zero, List.set_cons_succ])
  refine wpAnyH_take (i := 12) (oi := { dst := some 39, op := Go.Op.assign (Go.Operand.tmp 51), type := 4, pos := "proxy.go:69", after := #[{ on := 11, ground := Go.Ground.data }, { on := 10, ground := Go.Ground.chain }], guard := none }) (v := ?_) rfl (by kernel_rfl) (by kernel_rfl) (by kernel_rfl) (fun _ _ _ h => h) (Or.inl ⟨by rfl, ?_⟩) hHeld ?_
  rotate_left
  · intro W hSw
    (try dsimp only at hSw)
    go_simp
    (try with_reducible rfl)
  (try simp only [Act.put, List.setIfInBounds_toArray, List.set_cons_zero, List.set_cons_succ])
  refine wpAnyH_done (by kernel_rfl) ?_ _
  clear hHeld
  clear C36 SQ q3 q5 r5
  go_upto_region 6 with fail
  have A6 := hid D5.out.drew
  have c2 : w5x.drew.cell? ⟨P, 2, none⟩ = some (.int .i64 x.view) := by rw [cell_at A6.out.tail.tail.px]; rfl
  have g2 : w5x.drew.frozen? ⟨P, 2, none⟩ = false := free_at A6.out.tail.tail.px 2
  have m3 : w5x.drew.cell? ⟨M, 3, none⟩ = some (.int .i64 mm.v) := by rw [cell_at A6.out.1.2.1]; rfl
  have t2 : w5x.cell? ⟨P, 2, none⟩ = some (.int .i64 x.view) := c2
  have j2 : w5x.frozen? ⟨P, 2, none⟩ = false := g2
  have u3 : w5x.cell? ⟨M, 3, none⟩ = some (.int .i64 mm.v) := m3
  have B6 := (A6.out.perm (show List.Perm _ (pxL P x b m n1 n2 ++ (blkC M mm.cells 51 :: blkC G [.bool false, .int .i64 0, .int .i64 0, .int .i64 0, .int .i64 0, .int .i64 0, .slice none 0 0] 97 :: cs)) from (((List.Perm.cons _ (List.perm_middle (l₁ := pxL P x b m n1 n2)).symm).trans (List.perm_middle (l₁ := pxL P x b m n1 n2)).symm)))).setBlk 2 (.int .i64 (max x.view mm.v))
  have B7 : Hid (All (blkC M mm.cells 51 :: blkC G [.bool false, .int .i64 0, .int .i64 0, .int .i64 0, .int .i64 0, .int .i64 0, .slice none 0 0] 97 :: (pxL P ({ x with view := max x.view mm.v }) b m n1 n2 ++ cs)) (w5x.drew.setCell ⟨P, 2, none⟩ (.int .i64 (max x.view mm.v)))) := hid (All.perm ((((List.Perm.cons _ (List.perm_middle (l₁ := pxL P ({ x with view := max x.view mm.v }) b m n1 n2)).symm).trans (List.perm_middle (l₁ := pxL P ({ x with view := max x.view mm.v }) b m n1 n2)).symm))).symm B6)
  clear B6
  have hg6 := hid B7.out.tail.1.2.1
  have A7 := hid (B7.out.swap.setRow (vs' := [.bool false, .int .i64 0, .int .i64 0, .int .i64 0, .int .i64 0, .int .i64 0, .slice none 0 0]))
  clear D5
  go_region
  all_goals
    go_wp2_with (first | (refine wpList_build rfl 97 _ rfl (by kernel_rfl) ?_) | (refine wpList_store_row rfl 97 _ _ rfl G ([.bool false, .int .i64 0, .int .i64 0, .int .i64 0, .int .i64 0, .int .i64 0, .slice none 0 0] : List Value).toArray rfl (by kernel_rfl) 97 _ hg6.out I48.out Z48.out O48.out ?_))
    refine bodyPost_ret (v := .tuple #[.agg ([.bool false, .int .i64 0, .int .i64 0, .int .i64 0, .int .i64 0, .int .i64 0, .slice none 0 0] : List Value).toArray, .bool false]) (res15 (b := G) rfl rfl A7.out.1.2.1 I48.out) rfl ?_
    exact ⟨rfl, A7.out.tail.tail⟩
end Go.Proofs.YtdhkdniddjnigaaGreatDoor

namespace Go.Proofs.YtdhkdniddjnigaaGreatDoor
open Go.RowKit
set_option linter.unusedVariables false

theorem txtV_length (l : List ByteArray) : (txtV l).length = l.length := by simp [txtV]
theorem Tryz.inf9 : (Tryz.prog.info? 9).map (fun i => (i.zero, i.size, i.bytes)) = some (some (.string ⟨#[]⟩), 1, 16) := by kernel_rfl
theorem txtV_one (l : List ByteArray) : ∀ u ∈ txtV l, u.oneCell' = true := by
  intro u hu
  obtain ⟨_, _, rfl⟩ := List.mem_map.1 hu
  rfl

set_option maxHeartbeats 800000 in
set_option maxRecDepth 1000000 in
theorem tclone_some {w : World} (a : Addr) (c : Nat) (l : List ByteArray) (hc : ∀ j u, (txtV l)[j]? = some u → w.cell? (a.add j) = some u) (hg : l ≠ [] → ∃ g o, a = ⟨g, o, none⟩ ∧ g < w.heap.size) (hlen : (l.length + 1) * 16 ≤ 140737488355328) :
    Calls Tryz.prog 130 #[.slice (some a) l.length c] w fun e w' => ∃ s', e = .returned s' ∧ w'.ownsRow w.heap.size 9 1 s' l.length (txtV l) ∧ Below w.heap.size w w' := by
  obtain ⟨i0, hi, hz0, hz1, hz2⟩ := info_parts Tryz.inf9
  have he := fun w => Lib.run_eql_slice_nil (P := Tryz.prog) w 43 9 (some a) l.length c 0 0 Tryz.underlying43
  have hnews : ∀ j u, (txtV l)[j]? = some u → (w.alloc (.cells #[] 9)).cell? (a.add j) = some u := by
    intro j u hu
    have hne : l ≠ [] := by rintro rfl; simp [txtV] at hu
    obtain ⟨g, o, rfl, hgl⟩ := hg hne
    have := hc j u hu
    rw [Addr.add_lit] at this ⊢
    rw [World.cell?_alloc_past _ _ _ hgl]
    exact this
  clear hc hg
  have h0 : (w.alloc (.cells #[] 9)).ownsRow w.heap.size 9 1 (.slice (some ⟨w.heap.size, 0, none⟩) 0 0) 0 [] := World.ownsRow_made w #[] 0 (Nat.le_refl _) (by unfold maxLen; omega) rfl
  go_enter Tryz.func130, Tryz.ntmps130
  go_wp2_with (at_builtin; refine wpList_append_own_at _ rfl (.tmp 5) (.tmp 6) 43 rfl w.heap.size 9 i0 (.string (.mk #[])) 1 16 Tryz.underlying43 hi hz0 hz1 hz2 rfl (by decide) _ _ _ rfl h0 a l.length c (txtV l) rfl (by rw [txtV_length]; omega) hnews (txtV_one _) (by unfold maxLen; omega) (by omega) (by simp) ?_)
  intro v' w1 hown hgr hnil hat
  have R : Hid (w1.ownsRow w.heap.size 9 1 v' l.length (txtV l) ∧ Below w.heap.size w w1) := by
    refine ⟨by simpa using hown, ((Below.refl _ _).alloc (Nat.le_refl _) _).grown hgr (by simp) (fun k hk => ?_)⟩
    simp [Value.ownBlock] at hk
    omega
  clear hown hgr hnil hat h0
  go_wp2
  go_ret
  exact ⟨v', rfl, R.out.1, R.out.2⟩

set_option maxHeartbeats 800000 in
set_option maxRecDepth 1000000 in
theorem tclone_none {w : World} (c : Nat) :
    Calls Tryz.prog 130 #[.slice none 0 c] w fun e w' => e = .returned (.slice none 0 0) ∧ w' = w := by
  have he := fun w => Lib.run_eql_slice_nil (P := Tryz.prog) w 43 9 none 0 c 0 0 Tryz.underlying43
  go_enter Tryz.func130, Tryz.ntmps130
  go_wp2
  go_ret
  exact ⟨rfl, rfl⟩

theorem tclone_any {w : World} {s : Value} {l : List ByteArray} (h : Txts w s l) (hlen : (l.length + 1) * 16 ≤ 140737488355328) :
    Calls Tryz.prog 130 #[s] w fun e w' => ∃ s', e = .returned s' ∧ w'.ownsRow w.heap.size 9 1 s' l.length (txtV l) ∧ Below w.heap.size w w' := by
  obtain ⟨ao, c, rfl, hc, hx⟩ := h
  have hx' : (l = [] ∧ ao = none) ∨ ∃ a, ao = some a ∧ (l ≠ [] → ∃ g o, a = ⟨g, o, none⟩ ∧ g < w.heap.size) ∧ ∀ j u, (txtV l)[j]? = some u → w.cell? (a.add j) = some u := by
    rcases hx with rfl | ⟨g, o, rfl, hg, hcell⟩
    · cases ao with
      | none => exact .inl ⟨rfl, rfl⟩
      | some a => exact .inr ⟨a, rfl, fun h => absurd rfl h, fun j u hu => by simp [txtV] at hu⟩
    · refine .inr ⟨_, rfl, fun _ => ⟨_, _, rfl, hg⟩, fun j u hu => ?_⟩
      simp only [txtV, List.getElem?_map] at hu
      obtain ⟨x, hx, rfl⟩ := Option.map_eq_some_iff.1 hu
      obtain ⟨hj, rfl⟩ := List.getElem?_eq_some_iff.1 hx
      rw [Addr.add_lit]
      exact hcell j hj
  rcases hx' with ⟨rfl, rfl⟩ | ⟨a, rfl, hg, hcell⟩
  · refine (tclone_none c).mono ?_
    rintro e w' ⟨rfl, rfl⟩
    exact ⟨_, rfl, World.ownsRow_nil _ _ _ _, Below.refl _ _⟩
  · exact tclone_some a c l hcell hg hlen

theorem info35 : (Tryz.prog.info? 45).map (·.size) = some 3 := by kernel_rfl
set_option maxHeartbeats 1600000 in
set_option maxRecDepth 1000000 in
/-- A result that is copied. -/
theorem copied_any {w : World} (c n : Int) {ao : Option Addr} {k p : Nat} {l : List ByteArray} (h : Txts w (.slice ao k p) l) (hlen : (l.length + 1) * 16 ≤ 140737488355328) : Calls Tryz.prog 96 #[.agg #[.int .i64 c, .int .i64 n, .slice ao k p]] w fun e w' => ∃ a1 k1 p1, e = .returned (.agg #[.int .i64 c, .int .i64 n, .slice a1 k1 p1]) ∧ Below w.heap.size w w' := by
  have A0 : Hid (All [blkC (w.heap.size + 1) [.int .i64 0, .int .i64 0, .slice none 0 0] 45, blkC w.heap.size [.int .i64 c, .int .i64 n, .slice ao k p] 45, inC w] ((w.alloc (.cells #[.int .i64 c, .int .i64 n, .slice ao k p] 45)).alloc (.cells #[.int .i64 0, .int .i64 0, .slice none 0 0] 45))) := hid (by
    have := ((All.came w).addBlk [.int .i64 c, .int .i64 n, .slice ao k p] 45).addBlk [.int .i64 0, .int .i64 0, .slice none 0 0] 45
    simp only [World.size_alloc] at this
    exact this)
  have C : Hid (∀ W, Below w.heap.size w W → Calls Tryz.prog 130 #[.slice ao k p] W fun e w' => ∃ a1 k1 p1, e = .returned (.slice a1 k1 p1) ∧ Below W.heap.size W w') := hid (fun W hb => (tclone_any (h.later hb) hlen).mono fun e w' ⟨s', he, ho, hb'⟩ => by
    obtain ⟨a1, p1, rfl⟩ := owns_form ho
    exact ⟨a1, _, p1, he, hb'⟩)
  clear h hlen
  go_enter Tryz.func96, Tryz.ntmps96
  go_upto_region 1 with fail
  generalize (w.alloc (.cells #[.int .i64 c, .int .i64 n, .slice ao k p] 45)).alloc (.cells #[.int .i64 0, .int .i64 0, .slice none 0 0] 45) = w1 at A0 ⊢
  generalize w.heap.size + 1 = X2 at *
  have BW := hid (A0.out.into (w0 := w) (by simp))
  obtain ⟨B0, hB0⟩ : ∃ B0, Hid (B0 = w.heap.size) := ⟨_, hid rfl⟩
  rw [← hB0.out] at A0
  have y2 : w1.cell? ⟨w.heap.size, 2, none⟩ = some (.slice ao k p) := by rw [← hB0.out, cell_at A0.out.tail.1.2.1]; rfl
  go_upto_region 2 with (go_at_call 130; refine (C.out _ BW.out).mono ?_; rintro e w2 ⟨a1, k1, p1, rfl, b2⟩; have K2 := hid (A0.out.later b2); clear b2; have z2 : w2.cell? ⟨w.heap.size, 2, none⟩ = some (.slice ao k p) := (by rw [← hB0.out, cell_at K2.out.tail.1.2.1]; rfl); have f2 : w2.frozen? ⟨w.heap.size, 2, none⟩ = false := (by rw [← hB0.out]; exact free_at K2.out.tail.1.2.1 2))
  have K3 : Hid (All (blkC B0 [.int .i64 c, .int .i64 n, .slice a1 k1 p1] 45 :: blkC X2 [.int .i64 0, .int .i64 0, .slice none 0 0] 45 :: [inC w]) (w2.setCell ⟨B0, 2, none⟩ (.slice a1 k1 p1))) := hid (K2.out.swap.setBlk 2 (.slice a1 k1 p1))
  rw [hB0.out] at K3
  clear z2 f2 y2 A0 K2 BW C hB0
  generalize w2.setCell ⟨w.heap.size, 2, none⟩ (.slice a1 k1 p1) = w3 at *
  obtain ⟨RV, hRV⟩ : ∃ RV : List Value, RV = [.int .i64 c, .int .i64 n, .slice a1 k1 p1] := ⟨_, rfl⟩
  have I35 : Hid ((Tryz.prog.info? 45).map (·.size) = some RV.toArray.size) := hid (by rw [hRV]; exact info35)
  have O35 : Hid (RV.toArray.all (·.oneCell') = true) := hid (by rw [hRV]; simp [Value.oneCell'])
  have Z35 : Hid (([.int .i64 0, .int .i64 0, .slice none 0 0] : List Value).toArray.size = RV.toArray.size) := hid (by rw [hRV]; rfl)
  have FE : Hid (Value.agg RV.toArray = .agg #[.int .i64 c, .int .i64 n, .slice a1 k1 p1]) := hid (by rw [hRV])
  rw [← hRV] at K3
  clear hRV
  have H3 := hid K3.out.1.2.1
  have H4 := hid K3.out.tail.1.2.1
  have K4 := hid (K3.out.swap.setRow (vs' := RV))
  go_wp2_with (first | (refine wpList_load_row rfl 45 _ rfl w.heap.size rfl 45 RV.toArray (0, 0) _ H3.out Tryz.underlying45 rfl I35.out ?_) | (refine wpList_store_row rfl 45 _ _ rfl X2 RV.toArray rfl rfl 45 _ H4.out I35.out Z35.out O35.out ?_))
  refine bodyPost_ret (v := .agg RV.toArray) (results_cell_row (fn := Tryz.f96) rfl _ _ X2 45 RV.toArray (0, 0) _ rfl K4.out.1.2.1 Tryz.underlying45 rfl I35.out) rfl ?_
  exact ⟨a1, k1, p1, by rw [FE.out], K4.out.into (by simp)⟩
end Go.Proofs.YtdhkdniddjnigaaGreatDoor

namespace Go.Proofs.YtdhkdniddjnigaaGreatDoor
open Go.RowKit
set_option linter.unusedVariables false

/-- The answer that a reply brings. -/
def ansA (m : Ms) (v : Value) : List Value := [.bool false, .int .i64 m.q, .int .i64 m.n, .int .i64 0, .int .i64 m.rc, .int .i64 m.rn, v]
/-- What the copy of its result is. -/
def CopR (w0 : World) (mm : Ms) : Prop := ∀ W, Below w0.heap.size w0 W → Calls Tryz.prog 96 #[.agg #[.int .i64 mm.rc, .int .i64 mm.rn, .slice mm.ra mm.rl mm.rp]] W fun e w' => ∃ a1 k1 p1, e = .returned (.agg #[.int .i64 mm.rc, .int .i64 mm.rn, .slice a1 k1 p1]) ∧ Below W.heap.size W w'
set_option maxHeartbeats 3200000 in
set_option maxRecDepth 1000000 in
theorem takeReplyA {P : Nat} {x : Px} {b m n1 n2 : Int} {cs : List Comp} {w w0 : World} (h : All (pxL P x b m n1 n2 ++ cs) w) (hin : inC w0 ∈ cs) (mm : Ms) (hz : CopR w0 mm) : Calls Tryz.prog 58 #[.pointer (some ⟨P, 0, none⟩), .agg mm.cells.toArray] w fun e w' => ∃ a1 k1 p1, e = .returned (.agg (ansA mm (.slice a1 k1 p1)).toArray) ∧ All (pxL P (x.reply mm) b m b n2 ++ cs) w' := by
  obtain ⟨M, hM⟩ : ∃ M, Hid (M = w.heap.size) := ⟨_, hid rfl⟩
  obtain ⟨G, hG⟩ : ∃ G, Hid (G = w.heap.size + 1) := ⟨_, hid rfl⟩
  have A1 : Hid (All (blkC M mm.cells 51 :: blkC G [.bool false, .int .i64 0, .int .i64 0, .int .i64 0, .int .i64 0, .int .i64 0, .slice none 0 0] 97 :: (pxL P x b m n1 n2 ++ cs)) ((w.alloc (.cells mm.cells.toArray 51)).alloc (.cells #[.bool false, .int .i64 0, .int .i64 0, .int .i64 0, .int .i64 0, .int .i64 0, .slice none 0 0] 97))) := hid (by
    have := ((h.addBlk mm.cells 51).addBlk [.bool false, .int .i64 0, .int .i64 0, .int .i64 0, .int .i64 0, .int .i64 0, .slice none 0 0] 97).swap
    simp only [World.size_alloc] at this
    rw [hM.out, hG.out]
    exact this)
  have C60 : Hid (∀ W, All (blkC M mm.cells 51 :: blkC G [.bool false, .int .i64 0, .int .i64 0, .int .i64 0, .int .i64 0, .int .i64 0, .slice none 0 0] 97 :: (pxL P x b m n1 n2 ++ cs)) W → Calls Tryz.prog 95 #[.pointer (some ⟨P, 4, none⟩)] W fun e w' => e = .returned (.tuple #[]) ∧ All (blkC M mm.cells 51 :: blkC G [.bool false, .int .i64 0, .int .i64 0, .int .i64 0, .int .i64 0, .int .i64 0, .slice none 0 0] 97 :: (pxL P { x with rq := x.rq.ended } b m b n2 ++ cs)) w') := hid (fun W hW => by
    have h1 := hW.perm (show List.Perm _ (pxL P x b m n1 n2 ++ (blkC M mm.cells 51 :: blkC G [.bool false, .int .i64 0, .int .i64 0, .int .i64 0, .int .i64 0, .int .i64 0, .slice none 0 0] 97 :: cs)) from (((List.Perm.cons _ (List.perm_middle (l₁ := pxL P x b m n1 n2)).symm).trans (List.perm_middle (l₁ := pxL P x b m n1 n2)).symm)))
    refine (endR h1).mono ?_
    rintro e w' ⟨a1, a2⟩
    exact ⟨a1, a2.perm (((List.Perm.cons _ (List.perm_middle (l₁ := pxL P { x with rq := x.rq.ended } b m b n2)).symm).trans (List.perm_middle (l₁ := pxL P { x with rq := x.rq.ended } b m b n2)).symm)).symm⟩)
  have C61 : Hid (∀ W ds, All (ds ++ (pxL P (x.reply mm) b m b n2 ++ cs)) W → Calls Tryz.prog 96 #[.agg #[.int .i64 mm.rc, .int .i64 mm.rn, .slice mm.ra mm.rl mm.rp]] W fun e w' => ∃ a1 k1 p1, e = .returned (.agg #[.int .i64 mm.rc, .int .i64 mm.rn, .slice a1 k1 p1]) ∧ Below W.heap.size W w') := hid (fun W ds h => hz W (h.into (by simp [hin])))
  have HM : Hid (∀ W cs', All (blkC M mm.cells 51 :: cs') W → (fun W => W.cell? ⟨M, 3, none⟩ = some (.int .i64 mm.v) ∧ W.cell? ⟨M, 4, none⟩ = some (.int .i64 mm.n)) W) := hid (fun W cs' hW => ⟨by rw [cell_at hW.1.2.1]; rfl, by rw [cell_at hW.1.2.1]; rfl⟩)
  have SH3 : Hid (∀ W cs', All (blkC M mm.cells 51 :: cs') W → (fun W => W.cell? ⟨M, 8, none⟩ = some (.int .i64 mm.q) ∧ W.cell? ⟨M, 4, none⟩ = some (.int .i64 mm.n) ∧ W.cell? ⟨M, 15, none⟩ = some (.int .i64 mm.rc) ∧ W.cell? ⟨M, 16, none⟩ = some (.int .i64 mm.rn) ∧ W.cell? ⟨M, 17, none⟩ = some (.slice mm.ra mm.rl mm.rp)) W) := hid (fun W cs' hW => ⟨by rw [cell_at hW.1.2.1]; rfl, by rw [cell_at hW.1.2.1]; rfl, by rw [cell_at hW.1.2.1]; rfl, by rw [cell_at hW.1.2.1]; rfl, by rw [cell_at hW.1.2.1]; rfl⟩)
  have I48 : Hid (∀ v, (Tryz.prog.info? 97).map (·.size) = some (ansA mm v).toArray.size) := hid (fun v => info48)
  have O48 : Hid (∀ a1 k1 p1, (ansA mm (.slice a1 k1 p1)).toArray.all (·.oneCell') = true) := hid (fun a1 k1 p1 => by simp [ansA, Value.oneCell'])
  have Z48 : Hid (∀ v, ([.bool false, .int .i64 0, .int .i64 0, .int .i64 0, .int .i64 0, .int .i64 0, .slice none 0 0] : List Value).toArray.size = (ansA mm v).toArray.size) := hid (fun v => rfl)
  obtain ⟨PM, hPM⟩ : ∃ PM, Hid (PM = mm.cells.toArray) := ⟨_, hid rfl⟩
  rw [← hPM.out] at A1 ⊢
  clear h hz hin
  go_enter Tryz.func58, Tryz.ntmps58
  go_upto_region 1 with fail
  simp only [← hM.out]
  have eG : M + 1 = G := by rw [hM.out, hG.out]
  simp only [eG]
  clear eG
  generalize (w.alloc (.cells PM 51)).alloc (.cells #[.bool false, .int .i64 0, .int .i64 0, .int .i64 0, .int .i64 0, .int .i64 0, .slice none 0 0] 97) = w1 at A1 ⊢
  go_wp2_with fail
  refine (C60.out _ A1.out).mono ?_
  rintro e w2 ⟨rfl, hw2⟩
  have A2 := hid hw2
  clear hw2 C60 A1
  go_upto_region 2 with fail
  have A3 := hid A2.out.drew
  have p0 := hid (HM.out _ _ A3.out)
  have c2 : w2.drew.cell? ⟨P, 2, none⟩ = some (.int .i64 x.view) := by rw [cell_at A3.out.tail.tail.px]; rfl
  have c3 : w2.drew.cell? ⟨P, 3, none⟩ = some (.int .i64 x.seen) := by rw [cell_at A3.out.tail.tail.px]; rfl
  have g2 : w2.drew.frozen? ⟨P, 2, none⟩ = false := free_at A3.out.tail.tail.px 2
  have g3 : w2.drew.frozen? ⟨P, 3, none⟩ = false := free_at A3.out.tail.tail.px 3
  have B1 := (A3.out.perm (show List.Perm _ (pxL P { x with rq := x.rq.ended } b m b n2 ++ (blkC M mm.cells 51 :: blkC G [.bool false, .int .i64 0, .int .i64 0, .int .i64 0, .int .i64 0, .int .i64 0, .slice none 0 0] 97 :: cs)) from (((List.Perm.cons _ (List.perm_middle (l₁ := pxL P { x with rq := x.rq.ended } b m b n2)).symm).trans (List.perm_middle (l₁ := pxL P { x with rq := x.rq.ended } b m b n2)).symm)))).setBlk 2 (.int .i64 (max x.view mm.v))
  have B2 := B1.setBlk 3 (.int .i64 (max x.seen mm.n))
  have p1 := hid (HM.out _ _ (B1.perm (List.perm_middle (a := blkC M mm.cells 51) (l₁ := blkC P _ 111 :: boC x.rq.pb b m b :: [boC x.qu.pb b m n2]))))
  have p2 := hid (HM.out _ _ (B2.perm (List.perm_middle (a := blkC M mm.cells 51) (l₁ := blkC P _ 111 :: boC x.rq.pb b m b :: [boC x.qu.pb b m n2]))))
  have B3 : Hid (All (blkC M mm.cells 51 :: blkC G [.bool false, .int .i64 0, .int .i64 0, .int .i64 0, .int .i64 0, .int .i64 0, .slice none 0 0] 97 :: (pxL P (x.reply mm) b m b n2 ++ cs)) ((w2.drew.setCell ⟨P, 2, none⟩ (.int .i64 (max x.view mm.v))).setCell ⟨P, 3, none⟩ (.int .i64 (max x.seen mm.n)))) := hid (All.perm (((List.Perm.cons _ (List.perm_middle (l₁ := pxL P (x.reply mm) b m b n2)).symm).trans (List.perm_middle (l₁ := pxL P (x.reply mm) b m b n2)).symm)).symm B2)
  clear B1 B2
  obtain ⟨m3, m4⟩ := p0.out
  have k2 : w2.cell? ⟨P, 2, none⟩ = some (.int .i64 x.view) := c2
  have k3 : w2.cell? ⟨P, 3, none⟩ = some (.int .i64 x.seen) := c3
  have j2 : w2.frozen? ⟨P, 2, none⟩ = false := g2
  have j3 : w2.frozen? ⟨P, 3, none⟩ = false := g3
  have u3 : w2.cell? ⟨M, 3, none⟩ = some (.int .i64 mm.v) := m3
  have u4 : w2.cell? ⟨M, 4, none⟩ = some (.int .i64 mm.n) := m4
  go_cut [] (fun wx => Hid (All (blkC M mm.cells 51 :: blkC G [.bool false, .int .i64 0, .int .i64 0, .int .i64 0, .int .i64 0, .int .i64 0, .slice none 0 0] 97 :: (pxL P (x.reply mm) b m b n2 ++ cs)) wx))
  case first =>
    go_region
    all_goals
      go_wp2_with fail
      go_meet
      exact B3
  case rest =>
  have A4 := hcut
  clear p0 p1 p2 c2 c3 g2 g3 B3 A3 A2 m3 m4 hcut k2 k3 j2 j3 u3 u4
  go_upto_region 3 with fail
  have A5 := hid A4.out.drew
  have r0 := hid (SH3.out _ _ A5.out)
  refine wp_region_held_drew (S := (fun W => W.cell? ⟨M, 8, none⟩ = some (.int .i64 mm.q) ∧ W.cell? ⟨M, 4, none⟩ = some (.int .i64 mm.n) ∧ W.cell? ⟨M, 15, none⟩ = some (.int .i64 mm.rc) ∧ W.cell? ⟨M, 16, none⟩ = some (.int .i64 mm.rn) ∧ W.cell? ⟨M, 17, none⟩ = some (.slice mm.ra mm.rl mm.rp))) (by kernel_rfl) r0.out (fun hHeld => ?_)
  refine wpAnyH_take (i := 0) (oi := { dst := some 30, op := Go.Op.fieldAddr 51 (Go.Operand.tmp 3) 8, type := 0, pos := "proxy.go:80", after := #[], guard := none }) (v := ?_) rfl (by kernel_rfl) (by kernel_rfl) (by kernel_rfl) (fun _ _ _ h => h) (Or.inl ⟨by rfl, ?_⟩) hHeld ?_
  rotate_left
  · intro W hSw
    (try dsimp only at hSw)
    go_simp
    (try with_reducible rfl)
  (try simp only [Act.put, List.setIfInBounds_toArray, List.set_cons_zero, List.set_cons_succ])
  refine wpAnyH_take (i := 1) (oi := { dst := some 31, op := Go.Op.load 3 (Go.Operand.tmp 30), type := 3, pos := "proxy.go:80", after := #[{ on := 0, ground := Go.Ground.data }], guard := none }) (v := ?_) rfl (by kernel_rfl) (by kernel_rfl) (by kernel_rfl) (fun _ _ _ h => h) (Or.inl ⟨by rfl, ?_⟩) hHeld ?_
  rotate_left
  · intro W hSw
    (try dsimp only at hSw)
    go_simp
    (try with_reducible rfl)
  (try simp only [Act.put, List.setIfInBounds_toArray, List.set_cons_zero, List.set_cons_succ])
  refine wpAnyH_take (i := 2) (oi := { dst := some 32, op := Go.Op.fieldAddr 51 (Go.Operand.tmp 3) 4, type := 0, pos := "proxy.go:80", after := #[], guard := none }) (v := ?_) rfl (by kernel_rfl) (by kernel_rfl) (by kernel_rfl) (fun _ _ _ h => h) (Or.inl ⟨by rfl, ?_⟩) hHeld ?_
  rotate_left
  · intro W hSw
    (try dsimp only at hSw)
    go_simp
    (try with_reducible rfl)
  (try simp only [Act.put, List.setIfInBounds_toArray, List.set_cons_zero, List.set_cons_succ])
  refine wpAnyH_take (i := 3) (oi := { dst := some 33, op := Go.Op.load 3 (Go.Operand.tmp 32), type := 3, pos := "proxy.go:80", after := #[{ on := 2, ground := Go.Ground.data }], guard := none }) (v := ?_) rfl (by kernel_rfl) (by kernel_rfl) (by kernel_rfl) (fun _ _ _ h => h) (Or.inl ⟨by rfl, ?_⟩) hHeld ?_
  rotate_left
  · intro W hSw
    (try dsimp only at hSw)
    go_simp
    (try with_reducible rfl)
  (try simp only [Act.put, List.setIfInBounds_toArray, List.set_cons_zero, List.set_cons_succ])
  refine wpAnyH_take (i := 4) (oi := { dst := some 34, op := Go.Op.fieldAddr 51 (Go.Operand.tmp 3) 11, type := 0, pos := "proxy.go:80", after := #[], guard := none }) (v := ?_) rfl (by kernel_rfl) (by kernel_rfl) (by kernel_rfl) (fun _ _ _ h => h) (Or.inl ⟨by rfl, ?_⟩) hHeld ?_
  rotate_left
  · intro W hSw
    (try dsimp only at hSw)
    go_simp
    (try with_reducible rfl)
  (try simp only [Act.put, List.setIfInBounds_toArray, List.set_cons_zero, List.set_cons_succ])
  refine wpAnyH_take (i := 5) (oi := { dst := some 35, op := Go.Op.load 45 (Go.Operand.tmp 34), type := 45, pos := "proxy.go:80", after := #[{ on := 4, ground := Go.Ground.data }], guard := none }) (v := ?_) rfl (by kernel_rfl) (by kernel_rfl) (by kernel_rfl) (fun _ _ _ h => h) (Or.inl ⟨by rfl, ?_⟩) hHeld ?_
  rotate_left
  · intro W hSw
    (try dsimp only at hSw)
    go_simp
    (try with_reducible rfl)
  (try simp only [Act.put, List.setIfInBounds_toArray, List.set_cons_zero, List.set_cons_succ])
  refine wpAnyH_ready (rs := [6]) (by kernel_rfl) (by simp) ?_
  refine AllReadyH.cons (o := { dst := some 36, op := Go.Op.call { callee := Go.Callee.value (Go.Operand.func 96), args := #[Go.Operand.tmp 35], argTypes := #[45] }, type := 45, pos := "proxy.go:80", after := #[{ on := 5, ground := Go.Ground.data }], guard := none }) rfl (fun K hK => ?_) AllReadyH.nil
  go_simp
  refine (C61.out _ [_, _] A5.out).mono ?_; rintro e w6 ⟨a1, k1, p1, rfl, BB⟩; have A6 := hid (A5.out.later BB); have r1 := hid (SH3.out _ _ A6.out); clear BB
  refine hK.out _ _ r1.out (fun hHeld => ?_)
  clear hK K
  (try simp only [Act.put, List.setIfInBounds_toArray, List.set_cons_zero, List.set_cons_succ])
  refine wpAnyH_take (i := 7) (oi := { dst := some 37, op := Go.Op.build 97 #[(1, Go.Operand.tmp 31), (2, Go.Operand.tmp 33), (4, Go.Operand.tmp 36)], type := 97, pos := "proxy.go:80", after := #[{ on := 1, ground := Go.Ground.data }, { on := 3, ground := Go.Ground.data }, { on := 6, ground := Go.Ground.data }], guard := none }) (v := .agg (ansA mm (.slice a1 k1 p1)).toArray) rfl (by kernel_rfl) (by kernel_rfl) (by kernel_rfl) (fun _ _ _ h => h) (yieldsIf_build (by rfl) 97 _ rfl (ansA mm (.slice a1 k1 p1)).toArray (by kernel_rfl)) hHeld ?_
  (try simp only [Act.put, List.setIfInBounds_toArray, List.set_cons_zero, List.set_cons_succ])
  have A7 := hid (((A6.out.swap.setRow (vs' := ansA mm (.slice a1 k1 p1)))))
  have r2 := hid (SH3.out _ _ A7.out.swap)
  have hg2 := hid A6.out.tail.1.2.1
  refine wpAnyH_ready (rs := [8]) (by kernel_rfl) (by simp) ?_
  refine AllReadyH.cons (o := { dst := none, op := Go.Op.store 97 (Go.Operand.tmp 4) (Go.Operand.tmp 37), type := 0, pos := "proxy.go:80", after := #[{ on := 7, ground := Go.Ground.data }, { on := 6, ground := Go.Ground.chain }, { on := 0, ground := Go.Ground.phase }, { on := 1, ground := Go.Ground.phase }, { on := 2, ground := Go.Ground.phase }, { on := 3, ground := Go.Ground.phase }, { on := 4, ground := Go.Ground.phase }, { on := 5, ground := Go.Ground.phase }, { on := 6, ground := Go.Ground.phase }, { on := 7, ground := Go.Ground.phase }], guard := none }) rfl (fun K hK => ?_) AllReadyH.nil
  rw [if_pos (by rfl)]
  refine wp_store_row 97 _ _ rfl G (ansA mm (.slice a1 k1 p1)).toArray rfl rfl 97 _ hg2.out (I48.out _) (Z48.out _) (O48.out a1 k1 p1) ?_
  refine hK.out _ _ r2.out (fun hHeld => ?_)
  clear hK K
  (try simp only [Act.put])
  refine wpAnyH_done (by kernel_rfl) ?_ _
  clear hHeld
  clear r0 r1 r2 hg2
  go_wp2
  refine bodyPost_ret (v := .agg (ansA mm (.slice a1 k1 p1)).toArray) (results_cell_row (fn := Tryz.f58) rfl _ _ G 97 (ansA mm (.slice a1 k1 p1)).toArray (0, 0) _ rfl A7.out.1.2.1 Tryz.underlying97 rfl (I48.out _)) rfl ?_
  exact ⟨a1, k1, p1, rfl, A7.out.tail.tail⟩
end Go.Proofs.YtdhkdniddjnigaaGreatDoor

namespace Go.Proofs.YtdhkdniddjnigaaGreatDoor
open Go.RowKit
set_option linter.unusedVariables false

/-- The answer that a Told brings. -/
def ansT (m : Ms) (v : Value) : List Value := [.bool true, .int .i64 m.q, .int .i64 m.n, .int .i64 m.f, .int .i64 m.rc, .int .i64 m.rn, v]
def Px.told (x : Px) (m : Ms) : Px := { x.endq with seen := max x.seen m.n }
set_option maxHeartbeats 3200000 in
set_option maxRecDepth 1000000 in
theorem takeTold {P : Nat} {x : Px} {b m n1 n2 : Int} {cs : List Comp} {w w0 : World} (h : All (pxL P x b m n1 n2 ++ cs) w) (hin : inC w0 ∈ cs) (mm : Ms) (hz : CopR w0 mm) : Calls Tryz.prog 59 #[.pointer (some ⟨P, 0, none⟩), .agg mm.cells.toArray] w fun e w' => ∃ a1 k1 p1, e = .returned (.agg (ansT mm (.slice a1 k1 p1)).toArray) ∧ All (pxL P (x.told mm) b m n1 b ++ cs) w' := by
  obtain ⟨M, hM⟩ : ∃ M, Hid (M = w.heap.size) := ⟨_, hid rfl⟩
  obtain ⟨G, hG⟩ : ∃ G, Hid (G = w.heap.size + 1) := ⟨_, hid rfl⟩
  have A1 : Hid (All (blkC M mm.cells 51 :: blkC G [.bool false, .int .i64 0, .int .i64 0, .int .i64 0, .int .i64 0, .int .i64 0, .slice none 0 0] 97 :: (pxL P x b m n1 n2 ++ cs)) ((w.alloc (.cells mm.cells.toArray 51)).alloc (.cells #[.bool false, .int .i64 0, .int .i64 0, .int .i64 0, .int .i64 0, .int .i64 0, .slice none 0 0] 97))) := hid (by
    have := ((h.addBlk mm.cells 51).addBlk [.bool false, .int .i64 0, .int .i64 0, .int .i64 0, .int .i64 0, .int .i64 0, .slice none 0 0] 97).swap
    simp only [World.size_alloc] at this
    rw [hM.out, hG.out]
    exact this)
  have C62 : Hid (∀ W, All (blkC M mm.cells 51 :: blkC G [.bool false, .int .i64 0, .int .i64 0, .int .i64 0, .int .i64 0, .int .i64 0, .slice none 0 0] 97 :: (pxL P x b m n1 n2 ++ cs)) W → Calls Tryz.prog 97 #[.pointer (some ⟨P, 13, none⟩)] W fun e w' => e = .returned (.tuple #[]) ∧ All (blkC M mm.cells 51 :: blkC G [.bool false, .int .i64 0, .int .i64 0, .int .i64 0, .int .i64 0, .int .i64 0, .slice none 0 0] 97 :: (pxL P x.endq b m n1 b ++ cs)) w') := hid (fun W hW => by
    have h1 := hW.perm (show List.Perm _ (pxL P x b m n1 n2 ++ (blkC M mm.cells 51 :: blkC G [.bool false, .int .i64 0, .int .i64 0, .int .i64 0, .int .i64 0, .int .i64 0, .slice none 0 0] 97 :: cs)) from ((List.Perm.cons _ (List.perm_middle (l₁ := pxL P x b m n1 n2)).symm).trans (List.perm_middle (l₁ := pxL P x b m n1 n2)).symm))
    refine (qend62 h1).mono ?_
    rintro e w' ⟨a1, a2⟩
    exact ⟨a1, a2.perm (((List.Perm.cons _ (List.perm_middle (l₁ := pxL P x.endq b m n1 b)).symm).trans (List.perm_middle (l₁ := pxL P x.endq b m n1 b)).symm)).symm⟩)
  have C61 : Hid (∀ W ds, All (ds ++ (pxL P (x.told mm) b m n1 b ++ cs)) W → Calls Tryz.prog 96 #[.agg #[.int .i64 mm.rc, .int .i64 mm.rn, .slice mm.ra mm.rl mm.rp]] W fun e w' => ∃ a1 k1 p1, e = .returned (.agg #[.int .i64 mm.rc, .int .i64 mm.rn, .slice a1 k1 p1]) ∧ Below W.heap.size W w') := hid (fun W ds h => hz W (h.into (by simp [hin])))
  have HM : Hid (∀ W cs', All (blkC M mm.cells 51 :: cs') W → W.cell? ⟨M, 4, none⟩ = some (.int .i64 mm.n)) := hid (fun W cs' hW => by rw [cell_at hW.1.2.1]; rfl)
  have SH3 : Hid (∀ W cs', All (blkC M mm.cells 51 :: cs') W → (fun W => W.cell? ⟨M, 8, none⟩ = some (.int .i64 mm.q) ∧ W.cell? ⟨M, 4, none⟩ = some (.int .i64 mm.n) ∧ W.cell? ⟨M, 1, none⟩ = some (.int .i64 mm.f) ∧ W.cell? ⟨M, 15, none⟩ = some (.int .i64 mm.rc) ∧ W.cell? ⟨M, 16, none⟩ = some (.int .i64 mm.rn) ∧ W.cell? ⟨M, 17, none⟩ = some (.slice mm.ra mm.rl mm.rp)) W) := hid (fun W cs' hW => ⟨by rw [cell_at hW.1.2.1]; rfl, by rw [cell_at hW.1.2.1]; rfl, by rw [cell_at hW.1.2.1]; rfl, by rw [cell_at hW.1.2.1]; rfl, by rw [cell_at hW.1.2.1]; rfl, by rw [cell_at hW.1.2.1]; rfl⟩)
  have I48 : Hid (∀ v, (Tryz.prog.info? 97).map (·.size) = some (ansT mm v).toArray.size) := hid (fun v => info48)
  have O48 : Hid (∀ a1 k1 p1, (ansT mm (.slice a1 k1 p1)).toArray.all (·.oneCell') = true) := hid (fun a1 k1 p1 => by simp [ansT, Value.oneCell'])
  have Z48 : Hid (∀ v, ([.bool false, .int .i64 0, .int .i64 0, .int .i64 0, .int .i64 0, .int .i64 0, .slice none 0 0] : List Value).toArray.size = (ansT mm v).toArray.size) := hid (fun v => rfl)
  obtain ⟨PM, hPM⟩ : ∃ PM, Hid (PM = mm.cells.toArray) := ⟨_, hid rfl⟩
  rw [← hPM.out] at A1 ⊢
  clear h hz hin
  go_enter Tryz.func59, Tryz.ntmps59
  go_upto_region 1 with fail
  simp only [← hM.out]
  have eG : M + 1 = G := by rw [hM.out, hG.out]
  simp only [eG]
  clear eG
  generalize (w.alloc (.cells PM 51)).alloc (.cells #[.bool false, .int .i64 0, .int .i64 0, .int .i64 0, .int .i64 0, .int .i64 0, .slice none 0 0] 97) = w1 at A1 ⊢
  go_upto_region 2 with (go_at_call 97; refine (C62.out _ A1.out).mono ?_; rintro e w2 ⟨rfl, hw2⟩; have A2 := hid hw2; clear hw2)
  clear C62 A1
  have A3 := hid A2.out.drew
  have c3 : w2.drew.cell? ⟨P, 3, none⟩ = some (.int .i64 x.seen) := by rw [cell_at A3.out.tail.tail.px]; rfl
  have g3 : w2.drew.frozen? ⟨P, 3, none⟩ = false := free_at A3.out.tail.tail.px 3
  have B1 := (A3.out.perm (show List.Perm _ (pxL P x.endq b m n1 b ++ (blkC M mm.cells 51 :: blkC G [.bool false, .int .i64 0, .int .i64 0, .int .i64 0, .int .i64 0, .int .i64 0, .slice none 0 0] 97 :: cs)) from ((List.Perm.cons _ (List.perm_middle (l₁ := pxL P x.endq b m n1 b)).symm).trans (List.perm_middle (l₁ := pxL P x.endq b m n1 b)).symm))).setBlk 3 (.int .i64 (max x.seen mm.n))
  have B3 : Hid (All (blkC M mm.cells 51 :: blkC G [.bool false, .int .i64 0, .int .i64 0, .int .i64 0, .int .i64 0, .int .i64 0, .slice none 0 0] 97 :: (pxL P (x.told mm) b m n1 b ++ cs)) (w2.drew.setCell ⟨P, 3, none⟩ (.int .i64 (max x.seen mm.n)))) := hid (All.perm (((List.Perm.cons _ (List.perm_middle (l₁ := pxL P (x.told mm) b m n1 b)).symm).trans (List.perm_middle (l₁ := pxL P (x.told mm) b m n1 b)).symm)).symm B1)
  clear B1
  have m4 := HM.out _ _ A3.out
  have k3 : w2.cell? ⟨P, 3, none⟩ = some (.int .i64 x.seen) := c3
  have j3 : w2.frozen? ⟨P, 3, none⟩ = false := g3
  have u4 : w2.cell? ⟨M, 4, none⟩ = some (.int .i64 mm.n) := m4
  go_cut [] (fun wx => Hid (All (blkC M mm.cells 51 :: blkC G [.bool false, .int .i64 0, .int .i64 0, .int .i64 0, .int .i64 0, .int .i64 0, .slice none 0 0] 97 :: (pxL P (x.told mm) b m n1 b ++ cs)) wx))
  case first =>
    go_region
    all_goals
      go_wp2_with fail
      go_meet
      exact B3
  case rest =>
  have A4 := hcut
  clear c3 g3 B3 A3 A2 m4 hcut k3 j3 u4
  go_upto_region 3 with fail
  have A5 := hid A4.out.drew
  have r0 := hid (SH3.out _ _ A5.out)
  refine wp_region_held_drew (S := (fun W => W.cell? ⟨M, 8, none⟩ = some (.int .i64 mm.q) ∧ W.cell? ⟨M, 4, none⟩ = some (.int .i64 mm.n) ∧ W.cell? ⟨M, 1, none⟩ = some (.int .i64 mm.f) ∧ W.cell? ⟨M, 15, none⟩ = some (.int .i64 mm.rc) ∧ W.cell? ⟨M, 16, none⟩ = some (.int .i64 mm.rn) ∧ W.cell? ⟨M, 17, none⟩ = some (.slice mm.ra mm.rl mm.rp))) (by kernel_rfl) r0.out (fun hHeld => ?_)
  refine wpAnyH_take (i := 0) (oi := { dst := Option.some 19, op := Go.Op.fieldAddr 51 (Go.Operand.tmp 3) 8, type := 0, pos := "proxy.go:86", after := #[], guard := Option.none }) (v := ?_) rfl (by kernel_rfl) (by kernel_rfl) (by kernel_rfl) (fun _ _ _ h => h) (Or.inl ⟨by rfl, ?_⟩) hHeld ?_
  rotate_left
  · intro W hSw
    (try dsimp only at hSw)
    go_simp
    (try with_reducible rfl)
  (try simp only [Act.put, List.setIfInBounds_toArray, List.set_cons_zero, List.set_cons_succ])
  refine wpAnyH_take (i := 1) (oi := { dst := Option.some 20, op := Go.Op.load 3 (Go.Operand.tmp 19), type := 3, pos := "proxy.go:86", after := #[{ on := 0, ground := Go.Ground.data }], guard := Option.none }) (v := ?_) rfl (by kernel_rfl) (by kernel_rfl) (by kernel_rfl) (fun _ _ _ h => h) (Or.inl ⟨by rfl, ?_⟩) hHeld ?_
  rotate_left
  · intro W hSw
    (try dsimp only at hSw)
    go_simp
    (try with_reducible rfl)
  (try simp only [Act.put, List.setIfInBounds_toArray, List.set_cons_zero, List.set_cons_succ])
  refine wpAnyH_take (i := 2) (oi := { dst := Option.some 21, op := Go.Op.fieldAddr 51 (Go.Operand.tmp 3) 4, type := 0, pos := "proxy.go:86", after := #[], guard := Option.none }) (v := ?_) rfl (by kernel_rfl) (by kernel_rfl) (by kernel_rfl) (fun _ _ _ h => h) (Or.inl ⟨by rfl, ?_⟩) hHeld ?_
  rotate_left
  · intro W hSw
    (try dsimp only at hSw)
    go_simp
    (try with_reducible rfl)
  (try simp only [Act.put, List.setIfInBounds_toArray, List.set_cons_zero, List.set_cons_succ])
  refine wpAnyH_take (i := 3) (oi := { dst := Option.some 22, op := Go.Op.load 3 (Go.Operand.tmp 21), type := 3, pos := "proxy.go:86", after := #[{ on := 2, ground := Go.Ground.data }], guard := Option.none }) (v := ?_) rfl (by kernel_rfl) (by kernel_rfl) (by kernel_rfl) (fun _ _ _ h => h) (Or.inl ⟨by rfl, ?_⟩) hHeld ?_
  rotate_left
  · intro W hSw
    (try dsimp only at hSw)
    go_simp
    (try with_reducible rfl)
  (try simp only [Act.put, List.setIfInBounds_toArray, List.set_cons_zero, List.set_cons_succ])
  refine wpAnyH_take (i := 4) (oi := { dst := Option.some 23, op := Go.Op.fieldAddr 51 (Go.Operand.tmp 3) 1, type := 0, pos := "proxy.go:86", after := #[], guard := Option.none }) (v := ?_) rfl (by kernel_rfl) (by kernel_rfl) (by kernel_rfl) (fun _ _ _ h => h) (Or.inl ⟨by rfl, ?_⟩) hHeld ?_
  rotate_left
  · intro W hSw
    (try dsimp only at hSw)
    go_simp
    (try with_reducible rfl)
  (try simp only [Act.put, List.setIfInBounds_toArray, List.set_cons_zero, List.set_cons_succ])
  refine wpAnyH_take (i := 5) (oi := { dst := Option.some 24, op := Go.Op.load 3 (Go.Operand.tmp 23), type := 3, pos := "proxy.go:86", after := #[{ on := 4, ground := Go.Ground.data }], guard := Option.none }) (v := ?_) rfl (by kernel_rfl) (by kernel_rfl) (by kernel_rfl) (fun _ _ _ h => h) (Or.inl ⟨by rfl, ?_⟩) hHeld ?_
  rotate_left
  · intro W hSw
    (try dsimp only at hSw)
    go_simp
    (try with_reducible rfl)
  (try simp only [Act.put, List.setIfInBounds_toArray, List.set_cons_zero, List.set_cons_succ])
  refine wpAnyH_take (i := 6) (oi := { dst := Option.some 25, op := Go.Op.fieldAddr 51 (Go.Operand.tmp 3) 11, type := 0, pos := "proxy.go:86", after := #[], guard := Option.none }) (v := ?_) rfl (by kernel_rfl) (by kernel_rfl) (by kernel_rfl) (fun _ _ _ h => h) (Or.inl ⟨by rfl, ?_⟩) hHeld ?_
  rotate_left
  · intro W hSw
    (try dsimp only at hSw)
    go_simp
    (try with_reducible rfl)
  (try simp only [Act.put, List.setIfInBounds_toArray, List.set_cons_zero, List.set_cons_succ])
  refine wpAnyH_take (i := 7) (oi := { dst := Option.some 26, op := Go.Op.load 45 (Go.Operand.tmp 25), type := 45, pos := "proxy.go:86", after := #[{ on := 6, ground := Go.Ground.data }], guard := Option.none }) (v := ?_) rfl (by kernel_rfl) (by kernel_rfl) (by kernel_rfl) (fun _ _ _ h => h) (Or.inl ⟨by rfl, ?_⟩) hHeld ?_
  rotate_left
  · intro W hSw
    (try dsimp only at hSw)
    go_simp
    (try with_reducible rfl)
  (try simp only [Act.put, List.setIfInBounds_toArray, List.set_cons_zero, List.set_cons_succ])
  refine wpAnyH_ready (rs := [8]) (by kernel_rfl) (by simp) ?_
  refine AllReadyH.cons (o := { dst := Option.some 27, op := Go.Op.call { callee := Go.Callee.value (Go.Operand.func 96), args := #[Go.Operand.tmp 26], argTypes := #[45] }, type := 45, pos := "proxy.go:86", after := #[{ on := 7, ground := Go.Ground.data }], guard := Option.none }) rfl (fun K hK => ?_) AllReadyH.nil
  go_simp
  refine (C61.out _ [_, _] A5.out).mono ?_; rintro e w6 ⟨a1, k1, p1, rfl, BB⟩; have A6 := hid (A5.out.later BB); have r1 := hid (SH3.out _ _ A6.out); clear BB
  refine hK.out _ _ r1.out (fun hHeld => ?_)
  clear hK K
  (try simp only [Act.put, List.setIfInBounds_toArray, List.set_cons_zero, List.set_cons_succ])
  refine wpAnyH_take (i := 9) (oi := { dst := Option.some 28, op := Go.Op.build 97 #[(0, Go.Operand.const (Go.Value.bool Bool.true)), (1, Go.Operand.tmp 20), (2, Go.Operand.tmp 22), (3, Go.Operand.tmp 24), (4, Go.Operand.tmp 27)], type := 97, pos := "proxy.go:86", after := #[{ on := 1, ground := Go.Ground.data }, { on := 3, ground := Go.Ground.data }, { on := 5, ground := Go.Ground.data }, { on := 8, ground := Go.Ground.data }], guard := Option.none }) (v := .agg (ansT mm (.slice a1 k1 p1)).toArray) rfl (by kernel_rfl) (by kernel_rfl) (by kernel_rfl) (fun _ _ _ h => h) (yieldsIf_build (by rfl) 97 _ rfl (ansT mm (.slice a1 k1 p1)).toArray (by kernel_rfl)) hHeld ?_
  (try simp only [Act.put, List.setIfInBounds_toArray, List.set_cons_zero, List.set_cons_succ])
  have A7 := hid (A6.out.swap.setRow (vs' := ansT mm (.slice a1 k1 p1)))
  have r2 := hid (SH3.out _ _ A7.out.swap)
  have hg2 := hid A6.out.tail.1.2.1
  refine wpAnyH_ready (rs := [10]) (by kernel_rfl) (by simp) ?_
  refine AllReadyH.cons (o := { dst := Option.none, op := Go.Op.store 97 (Go.Operand.tmp 4) (Go.Operand.tmp 28), type := 0, pos := "proxy.go:86", after := #[{ on := 9, ground := Go.Ground.data }, { on := 8, ground := Go.Ground.chain }, { on := 0, ground := Go.Ground.phase }, { on := 1, ground := Go.Ground.phase }, { on := 2, ground := Go.Ground.phase }, { on := 3, ground := Go.Ground.phase }, { on := 4, ground := Go.Ground.phase }, { on := 5, ground := Go.Ground.phase }, { on := 6, ground := Go.Ground.phase }, { on := 7, ground := Go.Ground.phase }, { on := 8, ground := Go.Ground.phase }, { on := 9, ground := Go.Ground.phase }], guard := Option.none }) rfl (fun K hK => ?_) AllReadyH.nil
  rw [if_pos (by rfl)]
  refine wp_store_row 97 _ _ rfl G (ansT mm (.slice a1 k1 p1)).toArray rfl rfl 97 _ hg2.out (I48.out _) (Z48.out _) (O48.out a1 k1 p1) ?_
  refine hK.out _ _ r2.out (fun hHeld => ?_)
  clear hK K
  (try simp only [Act.put])
  refine wpAnyH_done (by kernel_rfl) ?_ _
  clear hHeld
  clear r0 r1 r2 hg2
  go_wp2
  refine bodyPost_ret (v := .agg (ansT mm (.slice a1 k1 p1)).toArray) (results_cell_row (fn := Tryz.f59) rfl _ _ G 97 (ansT mm (.slice a1 k1 p1)).toArray (0, 0) _ rfl A7.out.1.2.1 Tryz.underlying97 rfl (I48.out _)) rfl ?_
  exact ⟨a1, k1, p1, rfl, A7.out.tail.tail⟩
end Go.Proofs.YtdhkdniddjnigaaGreatDoor

namespace Go.Proofs.YtdhkdniddjnigaaGreatDoor
open Go.RowKit
set_option linter.unusedVariables false

set_option maxHeartbeats 3200000 in
set_option maxRecDepth 1000000 in
/-- A message that fits nothing that waits. -/
theorem step_told {P : Nat} {x : Px} {b m n1 n2 : Int} {cs : List Comp} {w w0 : World} (h : All (pxL P x b m n1 n2 ++ cs) w) (hin : inC w0 ∈ cs) (mm : Ms) (ht : mm.t = x.id) (hk : mm.k = 15) (ha : (x.qu.wts && (x.qu.num == mm.q)) = true) (hn : x.least ≤ mm.n) (hz : CopR w0 mm) (hC : ∀ W, Below w0.heap.size w0 W → Calls Tryz.prog 56 #[.int .i64 x.n, .agg mm.cells.toArray] W fun e w' => e = .returned (.int .i64 0) ∧ Below W.heap.size W w') :
    Calls Tryz.prog 36 #[.pointer (some ⟨P, 0, none⟩), .agg mm.cells.toArray] w fun e w' => ∃ a1 k1 p1, e = .returned (.tuple #[.agg (ansT mm (.slice a1 k1 p1)).toArray, .bool true]) ∧ All (pxL P (x.told mm) b m n1 b ++ cs) w' := by
  obtain ⟨M, hM⟩ : ∃ M, Hid (M = w.heap.size) := ⟨_, hid rfl⟩
  obtain ⟨G, hG⟩ : ∃ G, Hid (G = w.heap.size + 1) := ⟨_, hid rfl⟩
  have A1 : Hid (All (blkC M mm.cells 51 :: blkC G [.bool false, .int .i64 0, .int .i64 0, .int .i64 0, .int .i64 0, .int .i64 0, .slice none 0 0] 97 :: (pxL P x b m n1 n2 ++ cs)) ((w.alloc (.cells mm.cells.toArray 51)).alloc (.cells #[.bool false, .int .i64 0, .int .i64 0, .int .i64 0, .int .i64 0, .int .i64 0, .slice none 0 0] 97))) := hid (by
    have := ((h.addBlk mm.cells 51).addBlk [.bool false, .int .i64 0, .int .i64 0, .int .i64 0, .int .i64 0, .int .i64 0, .slice none 0 0] 97).swap
    simp only [World.size_alloc] at this
    rw [hM.out, hG.out]
    exact this)
  have C35 : Hid (∀ W, All (blkC M mm.cells 51 :: blkC G [.bool false, .int .i64 0, .int .i64 0, .int .i64 0, .int .i64 0, .int .i64 0, .slice none 0 0] 97 :: (pxL P x b m n1 n2 ++ cs)) W → Calls Tryz.prog 56 #[.int .i64 x.n, .agg mm.cells.toArray] W fun e w' => e = .returned (.int .i64 0) ∧ Below W.heap.size W w') := hid (fun W hW => hC W (hW.into (by simp [hin])))
  have C36 : Hid (∀ W, All (blkC M mm.cells 51 :: blkC G [.bool false, .int .i64 0, .int .i64 0, .int .i64 0, .int .i64 0, .int .i64 0, .slice none 0 0] 97 :: (pxL P x b m n1 n2 ++ cs)) W → Calls Tryz.prog 57 #[.pointer (some ⟨P, 13, none⟩), .int .i64 mm.q] W fun e w' => e = .returned (.bool true) ∧ w' = W) := hid (fun W hW => by
    have := awaitsQ hW.tail.tail mm.q
    rw [ha] at this
    exact this)
  have SP : Hid (∀ W, All (blkC M mm.cells 51 :: blkC G [.bool false, .int .i64 0, .int .i64 0, .int .i64 0, .int .i64 0, .int .i64 0, .slice none 0 0] 97 :: (pxL P x b m n1 n2 ++ cs)) W → (fun W => W.cell? ⟨P, 0, none⟩ = some (.int .i64 x.n) ∧ W.cell? ⟨P, 1, none⟩ = some (.int .i64 x.id) ∧ W.cell? ⟨M, 2, none⟩ = some (.int .i64 mm.t) ∧ W.rangeAt M 0 mm.cells) W) := hid (fun W hW => ⟨by rw [cell_at hW.tail.tail.px]; rfl, by rw [cell_at hW.tail.tail.px]; rfl, by rw [cell_at hW.1.2.1]; rfl, fun j u hu => by rw [cell_at hW.1.2.1]; simpa using hu⟩)
  have SQ : Hid (∀ W, All (blkC M mm.cells 51 :: blkC G [.bool false, .int .i64 0, .int .i64 0, .int .i64 0, .int .i64 0, .int .i64 0, .slice none 0 0] 97 :: (pxL P x b m n1 n2 ++ cs)) W → (fun W => W.cell? ⟨M, 0, none⟩ = some (.int .i64 mm.k) ∧ W.cell? ⟨M, 8, none⟩ = some (.int .i64 mm.q) ∧ W.cell? ⟨M, 4, none⟩ = some (.int .i64 mm.n) ∧ W.cell? ⟨P, 23, none⟩ = some (.int .i64 x.least)) W) := hid (fun W hW => ⟨by rw [cell_at hW.1.2.1]; rfl, by rw [cell_at hW.1.2.1]; rfl, by rw [cell_at hW.1.2.1]; rfl, by rw [cell_at hW.tail.tail.px]; rfl⟩)
  have I41 : Hid ((Tryz.prog.info? 51).map (·.size) = some mm.cells.length) := hid (by have := info41 mm; simpa using this)
  have J41 := hid (info41 mm)
  have C38 : Hid (∀ W, All (blkC M mm.cells 51 :: blkC G [.bool false, .int .i64 0, .int .i64 0, .int .i64 0, .int .i64 0, .int .i64 0, .slice none 0 0] 97 :: (pxL P x b m n1 n2 ++ cs)) W → Calls Tryz.prog 59 #[.pointer (some ⟨P, 0, none⟩), .agg mm.cells.toArray] W fun e w' => ∃ a1 k1 p1, e = .returned (.agg (ansT mm (.slice a1 k1 p1)).toArray) ∧ All (blkC M mm.cells 51 :: blkC G [.bool false, .int .i64 0, .int .i64 0, .int .i64 0, .int .i64 0, .int .i64 0, .slice none 0 0] 97 :: (pxL P (x.told mm) b m n1 b ++ cs)) w') := hid (fun W hW => by
    have h1 := hW.perm (show List.Perm _ (pxL P x b m n1 n2 ++ (blkC M mm.cells 51 :: blkC G [.bool false, .int .i64 0, .int .i64 0, .int .i64 0, .int .i64 0, .int .i64 0, .slice none 0 0] 97 :: cs)) from ((List.Perm.cons _ (List.perm_middle (l₁ := pxL P x b m n1 n2)).symm).trans (List.perm_middle (l₁ := pxL P x b m n1 n2)).symm))
    refine (takeTold h1 (by simp [hin]) mm hz).mono ?_
    rintro e w' ⟨q1, q2, q3, a1, a2⟩
    exact ⟨q1, q2, q3, a1, a2.perm (((List.Perm.cons _ (List.perm_middle (l₁ := pxL P (x.told mm) b m n1 b)).symm).trans (List.perm_middle (l₁ := pxL P (x.told mm) b m n1 b)).symm)).symm⟩)
  have I48 : Hid (∀ v, (Tryz.prog.info? 97).map (·.size) = some (ansT mm v).toArray.size) := hid (fun v => info48)
  have O48 : Hid (∀ a1 k1 p1, (ansT mm (.slice a1 k1 p1)).toArray.all (·.oneCell') = true) := hid (fun a1 k1 p1 => by simp [ansT, Value.oneCell'])
  have Z48 : Hid (∀ v, ([.bool false, .int .i64 0, .int .i64 0, .int .i64 0, .int .i64 0, .int .i64 0, .slice none 0 0] : List Value).toArray.size = (ansT mm v).toArray.size) := hid (fun v => rfl)
  have e1 : (mm.t != x.id) = false := by rw [ht]; simp
  have k2 : (mm.k == 2) = false := by rw [hk]; rfl
  have k3 : (mm.k == 3) = false := by rw [hk]; rfl
  have k15 : (mm.k == 15) = true := by rw [hk]; rfl
  have en : decide (x.least ≤ mm.n) = true := by simpa using hn
  clear hn
  clear h hin hC ht ha hk hz
  go_enter Tryz.func36, Tryz.ntmps36
  go_upto_region 1 with fail
  simp only [← hM.out]
  have eG : M + 1 = G := by rw [hM.out, hG.out]
  simp only [eG]
  clear eG
  generalize (w.alloc (.cells mm.cells.toArray 51)).alloc (.cells #[.bool false, .int .i64 0, .int .i64 0, .int .i64 0, .int .i64 0, .int .i64 0, .slice none 0 0] 97) = w1 at A1 ⊢
  have A2 := hid A1.out.drew
  have p0 := hid (SP.out _ A2.out)
  refine wp_region_held_drew (S := (fun W => W.cell? ⟨P, 0, none⟩ = some (.int .i64 x.n) ∧ W.cell? ⟨P, 1, none⟩ = some (.int .i64 x.id) ∧ W.cell? ⟨M, 2, none⟩ = some (.int .i64 mm.t) ∧ W.rangeAt M 0 mm.cells)) (by kernel_rfl) p0.out (fun hHeld => ?_)
  refine wpAnyH_take (i := 0) (oi := { dst := some 6, op := Go.Op.move (Go.Operand.tmp 0), type := 70, pos := "proxy.go:63", after := #[], guard := none }) (v := ?_) rfl (by kernel_rfl) (by kernel_rfl) (by kernel_rfl) (fun _ _ _ h => h) (Or.inl ⟨by rfl, ?_⟩) hHeld ?_
  rotate_left
  · intro W hSw
    (try dsimp only at hSw)
    go_simp
    (try with_reducible rfl)
  (try simp only [Act.put, List.setIfInBounds_toArray, List.set_cons_zero, List.set_cons_succ])
  refine wpAnyH_take (i := 1) (oi := { dst := some 7, op := Go.Op.nilCheck (Go.Operand.tmp 6), type := 0, pos := "proxy.go:63", after := #[{ on := 0, ground := Go.Ground.data }], guard := none }) (v := ?_) rfl (by kernel_rfl) (by kernel_rfl) (by kernel_rfl) (fun _ _ _ h => h) (Or.inl ⟨by rfl, ?_⟩) hHeld ?_
  rotate_left
  · intro W hSw
    (try dsimp only at hSw)
    go_simp
    (try with_reducible rfl)
  (try simp only [Act.put, List.setIfInBounds_toArray, List.set_cons_zero, List.set_cons_succ])
  refine wpAnyH_take (i := 2) (oi := { dst := some 8, op := Go.Op.fieldAddr 111 (Go.Operand.tmp 7) 0, type := 0, pos := "proxy.go:63", after := #[{ on := 1, ground := Go.Ground.data }], guard := none }) (v := ?_) rfl (by kernel_rfl) (by kernel_rfl) (by kernel_rfl) (fun _ _ _ h => h) (Or.inl ⟨by rfl, ?_⟩) hHeld ?_
  rotate_left
  · intro W hSw
    (try dsimp only at hSw)
    go_simp
    (try with_reducible rfl)
  (try simp only [Act.put, List.setIfInBounds_toArray, List.set_cons_zero, List.set_cons_succ])
  refine wpAnyH_take (i := 3) (oi := { dst := some 9, op := Go.Op.load 3 (Go.Operand.tmp 8), type := 3, pos := "proxy.go:63", after := #[{ on := 2, ground := Go.Ground.data }], guard := none }) (v := ?_) rfl (by kernel_rfl) (by kernel_rfl) (by kernel_rfl) (fun _ _ _ h => h) (Or.inl ⟨by rfl, ?_⟩) hHeld ?_
  rotate_left
  · intro W hSw
    (try dsimp only at hSw)
    go_simp
    (try with_reducible rfl)
  (try simp only [Act.put, List.setIfInBounds_toArray, List.set_cons_zero, List.set_cons_succ])
  refine wpAnyH_take (i := 4) (oi := { dst := some 10, op := Go.Op.load 51 (Go.Operand.tmp 3), type := 51, pos := "proxy.go:63", after := #[], guard := none }) (v := .agg mm.cells.toArray) rfl (by kernel_rfl) (by kernel_rfl) (by kernel_rfl) (fun _ _ _ h => h) (yieldsIf_load_mid (by rfl) 51 (.tmp 3) rfl M 0 rfl mm.cells _ (fun W hW => hW.2.2.2) Tryz.underlying51 rfl I41.out) hHeld ?_
  (try simp only [Act.put, List.setIfInBounds_toArray, List.set_cons_zero, List.set_cons_succ])
  refine wpAnyH_ready (rs := [5]) (by kernel_rfl) (by simp) ?_
  refine AllReadyH.cons (o := { dst := some 11, op := Go.Op.call { callee := Go.Callee.value (Go.Operand.func 56), args := #[Go.Operand.tmp 9, Go.Operand.tmp 10], argTypes := #[3, 51] }, type := 35, pos := "proxy.go:63", after := #[{ on := 3, ground := Go.Ground.data }, { on := 4, ground := Go.Ground.data }], guard := none }) rfl (fun K hK => ?_) AllReadyH.nil
  go_simp
  refine (C35.out _ A2.out).mono ?_; rintro e w3 ⟨rfl, BB⟩; have A3 := hid (A2.out.later BB); have p1 := hid (SP.out _ A3.out); clear BB
  refine hK.out _ _ p1.out (fun hHeld => ?_)
  clear hK K
  (try simp only [Act.put, List.setIfInBounds_toArray, List.set_cons_zero, List.set_cons_succ])
  refine wpAnyH_take (i := 6) (oi := { dst := some 12, op := Go.Op.binOp Go.BinOp.neq 35 (Go.Operand.tmp 11) (Go.Operand.const (Go.Value.int Go.IntKind.i64 0)) 35, type := 4, pos := "proxy.go:63", after := #[{ on := 5, ground := Go.Ground.data }], guard := none }) (v := ?_) rfl (by kernel_rfl) (by kernel_rfl) (by kernel_rfl) (fun _ _ _ h => h) (Or.inl ⟨by rfl, ?_⟩) hHeld ?_
  rotate_left
  · intro W hSw
    (try dsimp only at hSw)
    go_simp
    (try with_reducible rfl)
  (try simp only [Act.put, List.setIfInBounds_toArray, List.set_cons_zero, List.set_cons_succ])
  refine wpAnyH_take (i := 7) (oi := { dst := some 13, op := Go.Op.move (Go.Operand.tmp 12), type := 4, pos := "proxy.go:63", after := #[{ on := 6, ground := Go.Ground.data }, { on := 5, ground := Go.Ground.chain }], guard := none }) (v := ?_) rfl (by kernel_rfl) (by kernel_rfl) (by kernel_rfl) (fun _ _ _ h => h) (Or.inl ⟨by rfl, ?_⟩) hHeld ?_
  rotate_left
  · intro W hSw
    (try dsimp only at hSw)
    go_simp
    (try with_reducible rfl)
  (try simp only [Act.put, List.setIfInBounds_toArray, List.set_cons_zero, List.set_cons_succ])
  refine wpAnyH_take (i := 8) (oi := { dst := some 14, op := Go.Op.fieldAddr 51 (Go.Operand.tmp 3) 2, type := 0, pos := "proxy.go:63", after := #[{ on := 7, ground := Go.Ground.guard }], guard := some (7, false) }) (v := ?_) rfl (by kernel_rfl) (by kernel_rfl) (by kernel_rfl) (fun _ _ _ h => h) (Or.inl ⟨by rfl, ?_⟩) hHeld ?_
  rotate_left
  · intro W hSw
    (try dsimp only at hSw)
    go_simp
    (try with_reducible rfl)
  (try simp only [Act.put, List.setIfInBounds_toArray, List.set_cons_zero, List.set_cons_succ])
  refine wpAnyH_take (i := 9) (oi := { dst := some 15, op := Go.Op.load 3 (Go.Operand.tmp 14), type := 3, pos := "proxy.go:63", after := #[{ on := 8, ground := Go.Ground.data }, { on := 7, ground := Go.Ground.guard }], guard := some (7, false) }) (v := ?_) rfl (by kernel_rfl) (by kernel_rfl) (by kernel_rfl) (fun _ _ _ h => h) (Or.inl ⟨by rfl, ?_⟩) hHeld ?_
  rotate_left
  · intro W hSw
    (try dsimp only at hSw)
    go_simp
    (try with_reducible rfl)
  (try simp only [Act.put, List.setIfInBounds_toArray, List.set_cons_zero, List.set_cons_succ])
  refine wpAnyH_take (i := 10) (oi := { dst := some 16, op := Go.Op.move (Go.Operand.tmp 0), type := 70, pos := "proxy.go:63", after := #[{ on := 7, ground := Go.Ground.guard }], guard := some (7, false) }) (v := ?_) rfl (by kernel_rfl) (by kernel_rfl) (by kernel_rfl) (fun _ _ _ h => h) (Or.inl ⟨by rfl, ?_⟩) hHeld ?_
  rotate_left
  · intro W hSw
    (try dsimp only at hSw)
    go_simp
    (try with_reducible rfl)
  (try simp only [Act.put, List.setIfInBounds_toArray, List.set_cons_zero, List.set_cons_succ])
  refine wpAnyH_take (i := 11) (oi := { dst := some 17, op := Go.Op.nilCheck (Go.Operand.tmp 16), type := 0, pos := "proxy.go:63", after := #[{ on := 10, ground := Go.Ground.data }, { on := 7, ground := Go.Ground.guard }], guard := some (7, false) }) (v := ?_) rfl (by kernel_rfl) (by kernel_rfl) (by kernel_rfl) (fun _ _ _ h => h) (Or.inl ⟨by rfl, ?_⟩) hHeld ?_
  rotate_left
  · intro W hSw
    (try dsimp only at hSw)
    go_simp
    (try with_reducible rfl)
  (try simp only [Act.put, List.setIfInBounds_toArray, List.set_cons_zero, List.set_cons_succ])
  refine wpAnyH_take (i := 12) (oi := { dst := some 18, op := Go.Op.fieldAddr 111 (Go.Operand.tmp 17) 1, type := 0, pos := "proxy.go:63", after := #[{ on := 11, ground := Go.Ground.data }, { on := 7, ground := Go.Ground.guard }], guard := some (7, false) }) (v := ?_) rfl (by kernel_rfl) (by kernel_rfl) (by kernel_rfl) (fun _ _ _ h => h) (Or.inl ⟨by rfl, ?_⟩) hHeld ?_
  rotate_left
  · intro W hSw
    (try dsimp only at hSw)
    go_simp
    (try with_reducible rfl)
  (try simp only [Act.put, List.setIfInBounds_toArray, List.set_cons_zero, List.set_cons_succ])
  refine wpAnyH_take (i := 13) (oi := { dst := some 19, op := Go.Op.load 3 (Go.Operand.tmp 18), type := 3, pos := "proxy.go:63", after := #[{ on := 12, ground := Go.Ground.data }, { on := 7, ground := Go.Ground.guard }], guard := some (7, false) }) (v := ?_) rfl (by kernel_rfl) (by kernel_rfl) (by kernel_rfl) (fun _ _ _ h => h) (Or.inl ⟨by rfl, ?_⟩) hHeld ?_
  rotate_left
  · intro W hSw
    (try dsimp only at hSw)
    go_simp
    (try with_reducible rfl)
  (try simp only [Act.put, List.setIfInBounds_toArray, List.set_cons_zero, List.set_cons_succ])
  refine wpAnyH_take (i := 14) (oi := { dst := some 20, op := Go.Op.binOp Go.BinOp.neq 3 (Go.Operand.tmp 15) (Go.Operand.tmp 19) 3, type := 4, pos := "proxy.go:63", after := #[{ on := 9, ground := Go.Ground.data }, { on := 13, ground := Go.Ground.data }, { on := 7, ground := Go.Ground.guard }], guard := some (7, false) }) (v := ?_) rfl (by kernel_rfl) (by kernel_rfl) (by kernel_rfl) (fun _ _ _ h => h) (Or.inl ⟨by rfl, ?_⟩) hHeld ?_
  rotate_left
  · intro W hSw
    (try dsimp only at hSw)
    go_simp
    (try with_reducible rfl)
  (try simp only [Act.put, List.setIfInBounds_toArray, List.set_cons_zero, List.set_cons_succ])
  refine wpAnyH_take (i := 15) (oi := { dst := some 21, op := Go.Op.pick (Go.Operand.tmp 13) (Go.Operand.const (Go.Value.bool true)) (Go.Operand.tmp 20), type := 4, pos := "proxy.go:63", after := #[{ on := 7, ground := Go.Ground.data }, { on := 14, ground := Go.Ground.data }], guard := none }) (v := ?_) rfl (by kernel_rfl) (by kernel_rfl) (by kernel_rfl) (fun _ _ _ h => h) (Or.inl ⟨by rfl, ?_⟩) hHeld ?_
  rotate_left
  · intro W hSw
    (try dsimp only at hSw)
    go_simp
    (try with_reducible rfl)
  (try simp only [Act.put, List.setIfInBounds_toArray, List.set_cons_zero, List.set_cons_succ])
  refine wpAnyH_done (by kernel_rfl) ?_ _
  clear hHeld
  clear p0 p1 A1 A2 C35 SP
  go_upto_region 3 with fail
  have B3 := hid A3.out.drew
  have q3 := hid (SQ.out _ B3.out)
  refine wp_region_held_drew (S := (fun W => W.cell? ⟨M, 0, none⟩ = some (.int .i64 mm.k) ∧ W.cell? ⟨M, 8, none⟩ = some (.int .i64 mm.q) ∧ W.cell? ⟨M, 4, none⟩ = some (.int .i64 mm.n) ∧ W.cell? ⟨P, 23, none⟩ = some (.int .i64 x.least))) (by kernel_rfl) q3.out (fun hHeld => ?_)
  refine wpAnyH_take (i := 0) (oi := { dst := some 24, op := Go.Op.fieldAddr 51 (Go.Operand.tmp 3) 0, type := 0, pos := "proxy.go:67", after := #[], guard := none }) (v := ?_) rfl (by kernel_rfl) (by kernel_rfl) (by kernel_rfl) (fun _ _ _ h => h) (Or.inl ⟨by rfl, ?_⟩) hHeld ?_
  rotate_left
  · intro W hSw
    (try dsimp only at hSw)
    go_simp
    (try with_reducible rfl)
  (try simp only [Act.put, List.setIfInBounds_toArray, List.set_cons_zero, List.set_cons_succ])
  refine wpAnyH_take (i := 1) (oi := { dst := some 25, op := Go.Op.load 3 (Go.Operand.tmp 24), type := 3, pos := "proxy.go:67", after := #[{ on := 0, ground := Go.Ground.data }], guard := none }) (v := ?_) rfl (by kernel_rfl) (by kernel_rfl) (by kernel_rfl) (fun _ _ _ h => h) (Or.inl ⟨by rfl, ?_⟩) hHeld ?_
  rotate_left
  · intro W hSw
    (try dsimp only at hSw)
    go_simp
    (try with_reducible rfl)
  (try simp only [Act.put, List.setIfInBounds_toArray, List.set_cons_zero, List.set_cons_succ])
  refine wpAnyH_take (i := 2) (oi := { dst := some 26, op := Go.Op.binOp Go.BinOp.eql 3 (Go.Operand.tmp 25) (Go.Operand.const (Go.Value.int Go.IntKind.i64 2)) 3, type := 4, pos := "proxy.go:67", after := #[{ on := 1, ground := Go.Ground.data }], guard := none }) (v := ?_) rfl (by kernel_rfl) (by kernel_rfl) (by kernel_rfl) (fun _ _ _ h => h) (Or.inl ⟨by rfl, ?_⟩) hHeld ?_
  rotate_left
  · intro W hSw
    (try dsimp only at hSw)
    go_simp
    (try with_reducible rfl)
  (try simp only [Act.put, List.setIfInBounds_toArray, List.set_cons_zero, List.set_cons_succ])
  refine wpAnyH_take (i := 3) (oi := { dst := some 27, op := Go.Op.move (Go.Operand.tmp 26), type := 4, pos := "proxy.go:67", after := #[{ on := 2, ground := Go.Ground.data }], guard := none }) (v := ?_) rfl (by kernel_rfl) (by kernel_rfl) (by kernel_rfl) (fun _ _ _ h => h) (Or.inl ⟨by rfl, ?_⟩) hHeld ?_
  rotate_left
  · intro W hSw
    (try dsimp only at hSw)
    go_simp
    (try with_reducible rfl)
  (try simp only [Act.put, List.setIfInBounds_toArray, List.set_cons_zero, List.set_cons_succ])
  refine wpAnyH_take (i := 4) (oi := { dst := some 28, op := Go.Op.move (Go.Operand.tmp 0), type := 70, pos := "proxy.go:67", after := #[{ on := 3, ground := Go.Ground.guard }], guard := some (3, true) }) (v := undef) rfl (by kernel_rfl) (by kernel_rfl) (by kernel_rfl) (fun _ _ _ h => h) (Or.inr ⟨by rfl, rfl⟩) hHeld ?_
  (try simp only [Act.put, List.setIfInBounds_toArray, List.set_cons_zero, List.set_cons_succ])
  refine wpAnyH_take (i := 5) (oi := { dst := some 29, op := Go.Op.nilCheck (Go.Operand.tmp 28), type := 0, pos := "proxy.go:67", after := #[{ on := 4, ground := Go.Ground.data }, { on := 3, ground := Go.Ground.guard }], guard := some (3, true) }) (v := undef) rfl (by kernel_rfl) (by kernel_rfl) (by kernel_rfl) (fun _ _ _ h => h) (Or.inr ⟨by rfl, rfl⟩) hHeld ?_
  (try simp only [Act.put, List.setIfInBounds_toArray, List.set_cons_zero, List.set_cons_succ])
  refine wpAnyH_take (i := 6) (oi := { dst := some 30, op := Go.Op.fieldAddr 111 (Go.Operand.tmp 29) 4, type := 0, pos := "proxy.go:67", after := #[{ on := 5, ground := Go.Ground.data }, { on := 3, ground := Go.Ground.guard }], guard := some (3, true) }) (v := undef) rfl (by kernel_rfl) (by kernel_rfl) (by kernel_rfl) (fun _ _ _ h => h) (Or.inr ⟨by rfl, rfl⟩) hHeld ?_
  (try simp only [Act.put, List.setIfInBounds_toArray, List.set_cons_zero, List.set_cons_succ])
  refine wpAnyH_take (i := 7) (oi := { dst := some 31, op := Go.Op.fieldAddr 107 (Go.Operand.tmp 30) 0, type := 0, pos := "proxy.go:67", after := #[{ on := 6, ground := Go.Ground.data }, { on := 3, ground := Go.Ground.guard }], guard := some (3, true) }) (v := undef) rfl (by kernel_rfl) (by kernel_rfl) (by kernel_rfl) (fun _ _ _ h => h) (Or.inr ⟨by rfl, rfl⟩) hHeld ?_
  (try simp only [Act.put, List.setIfInBounds_toArray, List.set_cons_zero, List.set_cons_succ])
  refine wpAnyH_take (i := 8) (oi := { dst := some 32, op := Go.Op.fieldAddr 51 (Go.Operand.tmp 3) 8, type := 0, pos := "proxy.go:67", after := #[{ on := 3, ground := Go.Ground.guard }], guard := some (3, true) }) (v := undef) rfl (by kernel_rfl) (by kernel_rfl) (by kernel_rfl) (fun _ _ _ h => h) (Or.inr ⟨by rfl, rfl⟩) hHeld ?_
  (try simp only [Act.put, List.setIfInBounds_toArray, List.set_cons_zero, List.set_cons_succ])
  refine wpAnyH_take (i := 9) (oi := { dst := some 33, op := Go.Op.load 3 (Go.Operand.tmp 32), type := 3, pos := "proxy.go:67", after := #[{ on := 8, ground := Go.Ground.data }, { on := 3, ground := Go.Ground.guard }], guard := some (3, true) }) (v := undef) rfl (by kernel_rfl) (by kernel_rfl) (by kernel_rfl) (fun _ _ _ h => h) (Or.inr ⟨by rfl, rfl⟩) hHeld ?_
  (try simp only [Act.put, List.setIfInBounds_toArray, List.set_cons_zero, List.set_cons_succ])
  refine wpAnyH_take (i := 10) (oi := { dst := some 34, op := Go.Op.call { callee := Go.Callee.value (Go.Operand.func 57), args := #[Go.Operand.tmp 31, Go.Operand.tmp 33], argTypes := #[104, 3] }, type := 4, pos := "proxy.go:67", after := #[{ on := 7, ground := Go.Ground.data }, { on := 9, ground := Go.Ground.data }, { on := 3, ground := Go.Ground.chain }, { on := 3, ground := Go.Ground.guard }], guard := some (3, true) }) (v := undef) rfl (by kernel_rfl) (by kernel_rfl) (by kernel_rfl) (fun _ _ _ h => h) (Or.inr ⟨by rfl, rfl⟩) hHeld ?_
  (try simp only [Act.put, List.setIfInBounds_toArray, List.set_cons_zero, List.set_cons_succ])
  refine wpAnyH_take (i := 11) (oi := { dst := some 35, op := Go.Op.pick (Go.Operand.tmp 27) (Go.Operand.tmp 34) (Go.Operand.const (Go.Value.bool false)), type := 4, pos := "proxy.go:67", after := #[{ on := 3, ground := Go.Ground.data }, { on := 10, ground := Go.Ground.data }], guard := none }) (v := ?_) rfl (by kernel_rfl) (by kernel_rfl) (by kernel_rfl) (fun _ _ _ h => h) (Or.inl ⟨by rfl, ?_⟩) hHeld ?_
  rotate_left
  · intro W hSw
    (try dsimp only at hSw)
    go_simp
    (try with_reducible rfl)
  (try simp only [Act.put, List.setIfInBounds_toArray, List.set_cons_zero, List.set_cons_succ])
  refine wpAnyH_take (i := 12) (oi := { dst := some 23, op := Go.Op.assign (Go.Operand.tmp 35), type := 4, pos := "proxy.go:67", after := #[{ on := 11, ground := Go.Ground.data }, { on := 10, ground := Go.Ground.chain }], guard := none }) (v := ?_) rfl (by kernel_rfl) (by kernel_rfl) (by kernel_rfl) (fun _ _ _ h => h) (Or.inl ⟨by rfl, ?_⟩) hHeld ?_
  rotate_left
  · intro W hSw
    (try dsimp only at hSw)
    go_simp
    (try with_reducible rfl)
  (try simp only [Act.put, List.setIfInBounds_toArray, List.set_cons_zero, List.set_cons_succ])
  refine wpAnyH_done (by kernel_rfl) ?_ _
  clear hHeld
  go_upto_region 5 with fail
  have B5 := hid B3.out.drew
  have q5 := hid (SQ.out _ B5.out)
  refine wp_region_held_drew (S := (fun W => W.cell? ⟨M, 0, none⟩ = some (.int .i64 mm.k) ∧ W.cell? ⟨M, 8, none⟩ = some (.int .i64 mm.q) ∧ W.cell? ⟨M, 4, none⟩ = some (.int .i64 mm.n) ∧ W.cell? ⟨P, 23, none⟩ = some (.int .i64 x.least))) (by kernel_rfl) q5.out (fun hHeld => ?_)
  refine wpAnyH_take (i := 0) (oi := { dst := some 40, op := Go.Op.fieldAddr 51 (Go.Operand.tmp 3) 0, type := 0, pos := "proxy.go:69", after := #[], guard := none }) (v := ?_) rfl (by kernel_rfl) (by kernel_rfl) (by kernel_rfl) (fun _ _ _ h => h) (Or.inl ⟨by rfl, ?_⟩) hHeld ?_
  rotate_left
  · intro W hSw
    (try dsimp only at hSw)
    go_simp
    (try with_reducible rfl)
  (try simp only [Act.put, List.setIfInBounds_toArray, List.set_cons_zero, List.set_cons_succ])
  refine wpAnyH_take (i := 1) (oi := { dst := some 41, op := Go.Op.load 3 (Go.Operand.tmp 40), type := 3, pos := "proxy.go:69", after := #[{ on := 0, ground := Go.Ground.data }], guard := none }) (v := ?_) rfl (by kernel_rfl) (by kernel_rfl) (by kernel_rfl) (fun _ _ _ h => h) (Or.inl ⟨by rfl, ?_⟩) hHeld ?_
  rotate_left
  · intro W hSw
    (try dsimp only at hSw)
    go_simp
    (try with_reducible rfl)
  (try simp only [Act.put, List.setIfInBounds_toArray, List.set_cons_zero, List.set_cons_succ])
  refine wpAnyH_take (i := 2) (oi := { dst := some 42, op := Go.Op.binOp Go.BinOp.eql 3 (Go.Operand.tmp 41) (Go.Operand.const (Go.Value.int Go.IntKind.i64 3)) 3, type := 4, pos := "proxy.go:69", after := #[{ on := 1, ground := Go.Ground.data }], guard := none }) (v := ?_) rfl (by kernel_rfl) (by kernel_rfl) (by kernel_rfl) (fun _ _ _ h => h) (Or.inl ⟨by rfl, ?_⟩) hHeld ?_
  rotate_left
  · intro W hSw
    (try dsimp only at hSw)
    go_simp
    (try with_reducible rfl)
  (try simp only [Act.put, List.setIfInBounds_toArray, List.set_cons_zero, List.set_cons_succ])
  refine wpAnyH_take (i := 3) (oi := { dst := some 43, op := Go.Op.move (Go.Operand.tmp 42), type := 4, pos := "proxy.go:69", after := #[{ on := 2, ground := Go.Ground.data }], guard := none }) (v := ?_) rfl (by kernel_rfl) (by kernel_rfl) (by kernel_rfl) (fun _ _ _ h => h) (Or.inl ⟨by rfl, ?_⟩) hHeld ?_
  rotate_left
  · intro W hSw
    (try dsimp only at hSw)
    go_simp
    (try with_reducible rfl)
  (try simp only [Act.put, List.setIfInBounds_toArray, List.set_cons_zero, List.set_cons_succ])
  refine wpAnyH_take (i := 4) (oi := { dst := some 44, op := Go.Op.move (Go.Operand.tmp 0), type := 70, pos := "proxy.go:69", after := #[{ on := 3, ground := Go.Ground.guard }], guard := some (3, true) }) (v := undef) rfl (by kernel_rfl) (by kernel_rfl) (by kernel_rfl) (fun _ _ _ h => h) (Or.inr ⟨by rfl, rfl⟩) hHeld ?_
  (try simp only [Act.put, List.setIfInBounds_toArray, List.set_cons_zero, List.set_cons_succ])
  refine wpAnyH_take (i := 5) (oi := { dst := some 45, op := Go.Op.nilCheck (Go.Operand.tmp 44), type := 0, pos := "proxy.go:69", after := #[{ on := 4, ground := Go.Ground.data }, { on := 3, ground := Go.Ground.guard }], guard := some (3, true) }) (v := undef) rfl (by kernel_rfl) (by kernel_rfl) (by kernel_rfl) (fun _ _ _ h => h) (Or.inr ⟨by rfl, rfl⟩) hHeld ?_
  (try simp only [Act.put, List.setIfInBounds_toArray, List.set_cons_zero, List.set_cons_succ])
  refine wpAnyH_take (i := 6) (oi := { dst := some 46, op := Go.Op.fieldAddr 111 (Go.Operand.tmp 45) 4, type := 0, pos := "proxy.go:69", after := #[{ on := 5, ground := Go.Ground.data }, { on := 3, ground := Go.Ground.guard }], guard := some (3, true) }) (v := undef) rfl (by kernel_rfl) (by kernel_rfl) (by kernel_rfl) (fun _ _ _ h => h) (Or.inr ⟨by rfl, rfl⟩) hHeld ?_
  (try simp only [Act.put, List.setIfInBounds_toArray, List.set_cons_zero, List.set_cons_succ])
  refine wpAnyH_take (i := 7) (oi := { dst := some 47, op := Go.Op.fieldAddr 107 (Go.Operand.tmp 46) 0, type := 0, pos := "proxy.go:69", after := #[{ on := 6, ground := Go.Ground.data }, { on := 3, ground := Go.Ground.guard }], guard := some (3, true) }) (v := undef) rfl (by kernel_rfl) (by kernel_rfl) (by kernel_rfl) (fun _ _ _ h => h) (Or.inr ⟨by rfl, rfl⟩) hHeld ?_
  (try simp only [Act.put, List.setIfInBounds_toArray, List.set_cons_zero, List.set_cons_succ])
  refine wpAnyH_take (i := 8) (oi := { dst := some 48, op := Go.Op.fieldAddr 51 (Go.Operand.tmp 3) 8, type := 0, pos := "proxy.go:69", after := #[{ on := 3, ground := Go.Ground.guard }], guard := some (3, true) }) (v := undef) rfl (by kernel_rfl) (by kernel_rfl) (by kernel_rfl) (fun _ _ _ h => h) (Or.inr ⟨by rfl, rfl⟩) hHeld ?_
  (try simp only [Act.put, List.setIfInBounds_toArray, List.set_cons_zero, List.set_cons_succ])
  refine wpAnyH_take (i := 9) (oi := { dst := some 49, op := Go.Op.load 3 (Go.Operand.tmp 48), type := 3, pos := "proxy.go:69", after := #[{ on := 8, ground := Go.Ground.data }, { on := 3, ground := Go.Ground.guard }], guard := some (3, true) }) (v := undef) rfl (by kernel_rfl) (by kernel_rfl) (by kernel_rfl) (fun _ _ _ h => h) (Or.inr ⟨by rfl, rfl⟩) hHeld ?_
  (try simp only [Act.put, List.setIfInBounds_toArray, List.set_cons_zero, List.set_cons_succ])
  refine wpAnyH_take (i := 10) (oi := { dst := some 50, op := Go.Op.call { callee := Go.Callee.value (Go.Operand.func 57), args := #[Go.Operand.tmp 47, Go.Operand.tmp 49], argTypes := #[104, 3] }, type := 4, pos := "proxy.go:69", after := #[{ on := 7, ground := Go.Ground.data }, { on := 9, ground := Go.Ground.data }, { on := 3, ground := Go.Ground.chain }, { on := 3, ground := Go.Ground.guard }], guard := some (3, true) }) (v := undef) rfl (by kernel_rfl) (by kernel_rfl) (by kernel_rfl) (fun _ _ _ h => h) (Or.inr ⟨by rfl, rfl⟩) hHeld ?_
  (try simp only [Act.put, List.setIfInBounds_toArray, List.set_cons_zero, List.set_cons_succ])
  refine wpAnyH_take (i := 11) (oi := { dst := some 51, op := Go.Op.pick (Go.Operand.tmp 43) (Go.Operand.tmp 50) (Go.Operand.const (Go.Value.bool false)), type := 4, pos := "proxy.go:69", after := #[{ on := 3, ground := Go.Ground.data }, { on := 10, ground := Go.Ground.data }], guard := none }) (v := ?_) rfl (by kernel_rfl) (by kernel_rfl) (by kernel_rfl) (fun _ _ _ h => h) (Or.inl ⟨by rfl, ?_⟩) hHeld ?_
  rotate_left
  · intro W hSw
    (try dsimp only at hSw)
    go_simp
    (try with_reducible rfl)
  (try simp only [Act.put, List.setIfInBounds_toArray, List.set_cons_zero, List.set_cons_succ])
  refine wpAnyH_take (i := 12) (oi := { dst := some 39, op := Go.Op.assign (Go.Operand.tmp 51), type := 4, pos := "proxy.go:69", after := #[{ on := 11, ground := Go.Ground.data }, { on := 10, ground := Go.Ground.chain }], guard := none }) (v := ?_) rfl (by kernel_rfl) (by kernel_rfl) (by kernel_rfl) (fun _ _ _ h => h) (Or.inl ⟨by rfl, ?_⟩) hHeld ?_
  rotate_left
  · intro W hSw
    (try dsimp only at hSw)
    go_simp
    (try with_reducible rfl)
  (try simp only [Act.put, List.setIfInBounds_toArray, List.set_cons_zero, List.set_cons_succ])
  refine wpAnyH_done (by kernel_rfl) ?_ _
  clear hHeld
  go_upto_region 7 with fail
  have B7 := hid B5.out.drew
  have q7 := hid (SQ.out _ B7.out)
  refine wp_region_held_drew (S := (fun W => W.cell? ⟨M, 0, none⟩ = some (.int .i64 mm.k) ∧ W.cell? ⟨M, 8, none⟩ = some (.int .i64 mm.q) ∧ W.cell? ⟨M, 4, none⟩ = some (.int .i64 mm.n) ∧ W.cell? ⟨P, 23, none⟩ = some (.int .i64 x.least))) (by kernel_rfl) q7.out (fun hHeld => ?_)
  refine wpAnyH_take (i := 0) (oi := { dst := some 63, op := Go.Op.fieldAddr 51 (Go.Operand.tmp 3) 0, type := 0, pos := "proxy.go:71", after := #[], guard := none }) (v := ?_) rfl (by kernel_rfl) (by kernel_rfl) (by kernel_rfl) (fun _ _ _ h => h) (Or.inl ⟨by rfl, ?_⟩) hHeld ?_
  rotate_left
  · intro W hSw
    (try dsimp only at hSw)
    go_simp
    (try with_reducible rfl)
  (try simp only [Act.put, List.setIfInBounds_toArray, List.set_cons_zero, List.set_cons_succ])
  refine wpAnyH_take (i := 1) (oi := { dst := some 64, op := Go.Op.load 3 (Go.Operand.tmp 63), type := 3, pos := "proxy.go:71", after := #[{ on := 0, ground := Go.Ground.data }], guard := none }) (v := ?_) rfl (by kernel_rfl) (by kernel_rfl) (by kernel_rfl) (fun _ _ _ h => h) (Or.inl ⟨by rfl, ?_⟩) hHeld ?_
  rotate_left
  · intro W hSw
    (try dsimp only at hSw)
    go_simp
    (try with_reducible rfl)
  (try simp only [Act.put, List.setIfInBounds_toArray, List.set_cons_zero, List.set_cons_succ])
  refine wpAnyH_take (i := 2) (oi := { dst := some 65, op := Go.Op.binOp Go.BinOp.eql 3 (Go.Operand.tmp 64) (Go.Operand.const (Go.Value.int Go.IntKind.i64 15)) 3, type := 4, pos := "proxy.go:71", after := #[{ on := 1, ground := Go.Ground.data }], guard := none }) (v := ?_) rfl (by kernel_rfl) (by kernel_rfl) (by kernel_rfl) (fun _ _ _ h => h) (Or.inl ⟨by rfl, ?_⟩) hHeld ?_
  rotate_left
  · intro W hSw
    (try dsimp only at hSw)
    go_simp
    (try with_reducible rfl)
  (try simp only [Act.put, List.setIfInBounds_toArray, List.set_cons_zero, List.set_cons_succ])
  refine wpAnyH_take (i := 3) (oi := { dst := some 66, op := Go.Op.move (Go.Operand.tmp 65), type := 4, pos := "proxy.go:71", after := #[{ on := 2, ground := Go.Ground.data }], guard := none }) (v := ?_) rfl (by kernel_rfl) (by kernel_rfl) (by kernel_rfl) (fun _ _ _ h => h) (Or.inl ⟨by rfl, ?_⟩) hHeld ?_
  rotate_left
  · intro W hSw
    (try dsimp only at hSw)
    go_simp
    (try with_reducible rfl)
  (try simp only [Act.put, List.setIfInBounds_toArray, List.set_cons_zero, List.set_cons_succ])
  refine wpAnyH_take (i := 4) (oi := { dst := some 67, op := Go.Op.move (Go.Operand.tmp 0), type := 70, pos := "proxy.go:71", after := #[{ on := 3, ground := Go.Ground.guard }], guard := some (3, true) }) (v := ?_) rfl (by kernel_rfl) (by kernel_rfl) (by kernel_rfl) (fun _ _ _ h => h) (Or.inl ⟨by rfl, ?_⟩) hHeld ?_
  rotate_left
  · intro W hSw
    (try dsimp only at hSw)
    go_simp
    (try with_reducible rfl)
  (try simp only [Act.put, List.setIfInBounds_toArray, List.set_cons_zero, List.set_cons_succ])
  refine wpAnyH_take (i := 5) (oi := { dst := some 68, op := Go.Op.nilCheck (Go.Operand.tmp 67), type := 0, pos := "proxy.go:71", after := #[{ on := 4, ground := Go.Ground.data }, { on := 3, ground := Go.Ground.guard }], guard := some (3, true) }) (v := ?_) rfl (by kernel_rfl) (by kernel_rfl) (by kernel_rfl) (fun _ _ _ h => h) (Or.inl ⟨by rfl, ?_⟩) hHeld ?_
  rotate_left
  · intro W hSw
    (try dsimp only at hSw)
    go_simp
    (try with_reducible rfl)
  (try simp only [Act.put, List.setIfInBounds_toArray, List.set_cons_zero, List.set_cons_succ])
  refine wpAnyH_take (i := 6) (oi := { dst := some 69, op := Go.Op.fieldAddr 111 (Go.Operand.tmp 68) 5, type := 0, pos := "proxy.go:71", after := #[{ on := 5, ground := Go.Ground.data }, { on := 3, ground := Go.Ground.guard }], guard := some (3, true) }) (v := ?_) rfl (by kernel_rfl) (by kernel_rfl) (by kernel_rfl) (fun _ _ _ h => h) (Or.inl ⟨by rfl, ?_⟩) hHeld ?_
  rotate_left
  · intro W hSw
    (try dsimp only at hSw)
    go_simp
    (try with_reducible rfl)
  (try simp only [Act.put, List.setIfInBounds_toArray, List.set_cons_zero, List.set_cons_succ])
  refine wpAnyH_take (i := 7) (oi := { dst := some 70, op := Go.Op.fieldAddr 109 (Go.Operand.tmp 69) 0, type := 0, pos := "proxy.go:71", after := #[{ on := 6, ground := Go.Ground.data }, { on := 3, ground := Go.Ground.guard }], guard := some (3, true) }) (v := ?_) rfl (by kernel_rfl) (by kernel_rfl) (by kernel_rfl) (fun _ _ _ h => h) (Or.inl ⟨by rfl, ?_⟩) hHeld ?_
  rotate_left
  · intro W hSw
    (try dsimp only at hSw)
    go_simp
    (try with_reducible rfl)
  (try simp only [Act.put, List.setIfInBounds_toArray, List.set_cons_zero, List.set_cons_succ])
  refine wpAnyH_take (i := 8) (oi := { dst := some 71, op := Go.Op.fieldAddr 51 (Go.Operand.tmp 3) 8, type := 0, pos := "proxy.go:71", after := #[{ on := 3, ground := Go.Ground.guard }], guard := some (3, true) }) (v := ?_) rfl (by kernel_rfl) (by kernel_rfl) (by kernel_rfl) (fun _ _ _ h => h) (Or.inl ⟨by rfl, ?_⟩) hHeld ?_
  rotate_left
  · intro W hSw
    (try dsimp only at hSw)
    go_simp
    (try with_reducible rfl)
  (try simp only [Act.put, List.setIfInBounds_toArray, List.set_cons_zero, List.set_cons_succ])
  refine wpAnyH_take (i := 9) (oi := { dst := some 72, op := Go.Op.load 3 (Go.Operand.tmp 71), type := 3, pos := "proxy.go:71", after := #[{ on := 8, ground := Go.Ground.data }, { on := 3, ground := Go.Ground.guard }], guard := some (3, true) }) (v := ?_) rfl (by kernel_rfl) (by kernel_rfl) (by kernel_rfl) (fun _ _ _ h => h) (Or.inl ⟨by rfl, ?_⟩) hHeld ?_
  rotate_left
  · intro W hSw
    (try dsimp only at hSw)
    go_simp
    (try with_reducible rfl)
  (try simp only [Act.put, List.setIfInBounds_toArray, List.set_cons_zero, List.set_cons_succ])
  refine wpAnyH_ready (rs := [10]) (by kernel_rfl) (by simp) ?_
  refine AllReadyH.cons (o := { dst := some 73, op := Go.Op.call { callee := Go.Callee.value (Go.Operand.func 57), args := #[Go.Operand.tmp 70, Go.Operand.tmp 72], argTypes := #[104, 3] }, type := 4, pos := "proxy.go:71", after := #[{ on := 7, ground := Go.Ground.data }, { on := 9, ground := Go.Ground.data }, { on := 3, ground := Go.Ground.chain }, { on := 3, ground := Go.Ground.guard }], guard := some (3, true) }) rfl (fun K hK => ?_) AllReadyH.nil
  go_simp
  refine (C36.out _ B7.out).mono ?_; rintro e w7x ⟨rfl, hw4⟩; have D7 : Hid (All (blkC M mm.cells 51 :: blkC G [.bool false, .int .i64 0, .int .i64 0, .int .i64 0, .int .i64 0, .int .i64 0, .slice none 0 0] 97 :: (pxL P x b m n1 n2 ++ cs)) w7x) := hid (by rw [hw4]; exact B7.out); have r7 := hid (SQ.out _ D7.out); clear hw4
  refine hK.out _ _ r7.out (fun hHeld => ?_)
  clear hK K
  (try simp only [Act.put, List.setIfInBounds_toArray, List.set_cons_zero, List.set_cons_succ])
  refine wpAnyH_take (i := 11) (oi := { dst := some 74, op := Go.Op.pick (Go.Operand.tmp 66) (Go.Operand.tmp 73) (Go.Operand.const (Go.Value.bool false)), type := 4, pos := "proxy.go:71", after := #[{ on := 3, ground := Go.Ground.data }, { on := 10, ground := Go.Ground.data }], guard := none }) (v := ?_) rfl (by kernel_rfl) (by kernel_rfl) (by kernel_rfl) (fun _ _ _ h => h) (Or.inl ⟨by rfl, ?_⟩) hHeld ?_
  rotate_left
  · intro W hSw
    (try dsimp only at hSw)
    go_simp
    (try with_reducible rfl)
  (try simp only [Act.put, List.setIfInBounds_toArray, List.set_cons_zero, List.set_cons_succ])
  refine wpAnyH_take (i := 12) (oi := { dst := some 75, op := Go.Op.move (Go.Operand.tmp 74), type := 4, pos := "proxy.go:71", after := #[{ on := 11, ground := Go.Ground.data }, { on := 10, ground := Go.Ground.chain }], guard := none }) (v := ?_) rfl (by kernel_rfl) (by kernel_rfl) (by kernel_rfl) (fun _ _ _ h => h) (Or.inl ⟨by rfl, ?_⟩) hHeld ?_
  rotate_left
  · intro W hSw
    (try dsimp only at hSw)
    go_simp
    (try with_reducible rfl)
  (try simp only [Act.put, List.setIfInBounds_toArray, List.set_cons_zero, List.set_cons_succ])
  refine wpAnyH_take (i := 13) (oi := { dst := some 76, op := Go.Op.fieldAddr 51 (Go.Operand.tmp 3) 4, type := 0, pos := "proxy.go:71", after := #[{ on := 12, ground := Go.Ground.guard }], guard := some (12, true) }) (v := ?_) rfl (by kernel_rfl) (by kernel_rfl) (by kernel_rfl) (fun _ _ _ h => h) (Or.inl ⟨by rfl, ?_⟩) hHeld ?_
  rotate_left
  · intro W hSw
    (try dsimp only at hSw)
    go_simp
    (try with_reducible rfl)
  (try simp only [Act.put, List.setIfInBounds_toArray, List.set_cons_zero, List.set_cons_succ])
  refine wpAnyH_take (i := 14) (oi := { dst := some 77, op := Go.Op.load 3 (Go.Operand.tmp 76), type := 3, pos := "proxy.go:71", after := #[{ on := 13, ground := Go.Ground.data }, { on := 12, ground := Go.Ground.guard }], guard := some (12, true) }) (v := ?_) rfl (by kernel_rfl) (by kernel_rfl) (by kernel_rfl) (fun _ _ _ h => h) (Or.inl ⟨by rfl, ?_⟩) hHeld ?_
  rotate_left
  · intro W hSw
    (try dsimp only at hSw)
    go_simp
    (try with_reducible rfl)
  (try simp only [Act.put, List.setIfInBounds_toArray, List.set_cons_zero, List.set_cons_succ])
  refine wpAnyH_take (i := 15) (oi := { dst := some 78, op := Go.Op.move (Go.Operand.tmp 0), type := 70, pos := "proxy.go:71", after := #[{ on := 12, ground := Go.Ground.guard }], guard := some (12, true) }) (v := ?_) rfl (by kernel_rfl) (by kernel_rfl) (by kernel_rfl) (fun _ _ _ h => h) (Or.inl ⟨by rfl, ?_⟩) hHeld ?_
  rotate_left
  · intro W hSw
    (try dsimp only at hSw)
    go_simp
    (try with_reducible rfl)
  (try simp only [Act.put, List.setIfInBounds_toArray, List.set_cons_zero, List.set_cons_succ])
  refine wpAnyH_take (i := 16) (oi := { dst := some 79, op := Go.Op.nilCheck (Go.Operand.tmp 78), type := 0, pos := "proxy.go:71", after := #[{ on := 15, ground := Go.Ground.data }, { on := 12, ground := Go.Ground.guard }], guard := some (12, true) }) (v := ?_) rfl (by kernel_rfl) (by kernel_rfl) (by kernel_rfl) (fun _ _ _ h => h) (Or.inl ⟨by rfl, ?_⟩) hHeld ?_
  rotate_left
  · intro W hSw
    (try dsimp only at hSw)
    go_simp
    (try with_reducible rfl)
  (try simp only [Act.put, List.setIfInBounds_toArray, List.set_cons_zero, List.set_cons_succ])
  refine wpAnyH_take (i := 17) (oi := { dst := some 80, op := Go.Op.fieldAddr 111 (Go.Operand.tmp 79) 5, type := 0, pos := "proxy.go:71", after := #[{ on := 16, ground := Go.Ground.data }, { on := 12, ground := Go.Ground.guard }], guard := some (12, true) }) (v := ?_) rfl (by kernel_rfl) (by kernel_rfl) (by kernel_rfl) (fun _ _ _ h => h) (Or.inl ⟨by rfl, ?_⟩) hHeld ?_
  rotate_left
  · intro W hSw
    (try dsimp only at hSw)
    go_simp
    (try with_reducible rfl)
  (try simp only [Act.put, List.setIfInBounds_toArray, List.set_cons_zero, List.set_cons_succ])
  refine wpAnyH_take (i := 18) (oi := { dst := some 81, op := Go.Op.fieldAddr 109 (Go.Operand.tmp 80) 2, type := 0, pos := "proxy.go:71", after := #[{ on := 17, ground := Go.Ground.data }, { on := 12, ground := Go.Ground.guard }], guard := some (12, true) }) (v := ?_) rfl (by kernel_rfl) (by kernel_rfl) (by kernel_rfl) (fun _ _ _ h => h) (Or.inl ⟨by rfl, ?_⟩) hHeld ?_
  rotate_left
  · intro W hSw
    (try dsimp only at hSw)
    go_simp
    (try with_reducible rfl)
  (try simp only [Act.put, List.setIfInBounds_toArray, List.set_cons_zero, List.set_cons_succ])
  refine wpAnyH_take (i := 19) (oi := { dst := some 82, op := Go.Op.load 3 (Go.Operand.tmp 81), type := 3, pos := "proxy.go:71", after := #[{ on := 18, ground := Go.Ground.data }, { on := 12, ground := Go.Ground.guard }], guard := some (12, true) }) (v := ?_) rfl (by kernel_rfl) (by kernel_rfl) (by kernel_rfl) (fun _ _ _ h => h) (Or.inl ⟨by rfl, ?_⟩) hHeld ?_
  rotate_left
  · intro W hSw
    (try dsimp only at hSw)
    go_simp
    (try with_reducible rfl)
  (try simp only [Act.put, List.setIfInBounds_toArray, List.set_cons_zero, List.set_cons_succ])
  refine wpAnyH_take (i := 20) (oi := { dst := some 83, op := Go.Op.binOp Go.BinOp.geq 3 (Go.Operand.tmp 77) (Go.Operand.tmp 82) 3, type := 4, pos := "proxy.go:71", after := #[{ on := 14, ground := Go.Ground.data }, { on := 19, ground := Go.Ground.data }, { on := 12, ground := Go.Ground.guard }], guard := some (12, true) }) (v := ?_) rfl (by kernel_rfl) (by kernel_rfl) (by kernel_rfl) (fun _ _ _ h => h) (Or.inl ⟨by rfl, ?_⟩) hHeld ?_
  rotate_left
  · intro W hSw
    (try dsimp only at hSw)
    go_simp
    (try with_reducible rfl)
  (try simp only [Act.put, List.setIfInBounds_toArray, List.set_cons_zero, List.set_cons_succ])
  refine wpAnyH_take (i := 21) (oi := { dst := some 84, op := Go.Op.pick (Go.Operand.tmp 75) (Go.Operand.tmp 83) (Go.Operand.const (Go.Value.bool false)), type := 4, pos := "proxy.go:71", after := #[{ on := 12, ground := Go.Ground.data }, { on := 20, ground := Go.Ground.data }], guard := none }) (v := ?_) rfl (by kernel_rfl) (by kernel_rfl) (by kernel_rfl) (fun _ _ _ h => h) (Or.inl ⟨by rfl, ?_⟩) hHeld ?_
  rotate_left
  · intro W hSw
    (try dsimp only at hSw)
    go_simp
    (try with_reducible rfl)
  (try simp only [Act.put, List.setIfInBounds_toArray, List.set_cons_zero, List.set_cons_succ])
  refine wpAnyH_take (i := 22) (oi := { dst := some 62, op := Go.Op.assign (Go.Operand.tmp 84), type := 4, pos := "proxy.go:71", after := #[{ on := 21, ground := Go.Ground.data }, { on := 12, ground := Go.Ground.chain }], guard := none }) (v := ?_) rfl (by kernel_rfl) (by kernel_rfl) (by kernel_rfl) (fun _ _ _ h => h) (Or.inl ⟨by rfl, ?_⟩) hHeld ?_
  rotate_left
  · intro W hSw
    (try dsimp only at hSw)
    go_simp
    (try with_reducible rfl)
  (try simp only [Act.put, List.setIfInBounds_toArray, List.set_cons_zero, List.set_cons_succ])
  refine wpAnyH_done (by kernel_rfl) ?_ _
  clear hHeld
  have H5 := hid D7.out.1.2.1
  go_upto_region 8 with fail
  go_wp2_with (refine wpList_load_row rfl 51 _ rfl M rfl 51 mm.cells.toArray (0, 0) _ H5.out Tryz.underlying51 rfl J41.out ?_)
  refine (C38.out _ D7.out).mono ?_
  rintro e w5 ⟨a1, k1, p1, rfl, hw5⟩
  have A6 := hid hw5.swap
  have hg6 := hid hw5.tail.1.2.1
  have A7 := hid (A6.out.setRow (vs' := ansT mm (.slice a1 k1 p1)))
  clear hw5 C38 D7 H5
  go_wp2_with (refine wpList_store_row rfl 97 _ _ rfl G (ansT mm (.slice a1 k1 p1)).toArray rfl rfl 97 _ hg6.out (I48.out _) (Z48.out _) (O48.out a1 k1 p1) ?_)
  refine bodyPost_ret (v := .tuple #[.agg (ansT mm (.slice a1 k1 p1)).toArray, .bool true]) (res15 (b := G) rfl rfl A7.out.1.2.1 (I48.out _)) rfl ?_
  exact ⟨a1, k1, p1, rfl, A7.out.tail.tail⟩
end Go.Proofs.YtdhkdniddjnigaaGreatDoor

namespace Go.Proofs.YtdhkdniddjnigaaGreatDoor
open Go.RowKit
set_option linter.unusedVariables false

/-- What the copy of a message's result is, known. -/
def CopV (w0 : World) (mm : Ms) (a1 : Option Addr) (k1 p1 : Nat) : Prop := ∀ W, Below w0.heap.size w0 W → Calls Tryz.prog 96 #[.agg #[.int .i64 mm.rc, .int .i64 mm.rn, .slice mm.ra mm.rl mm.rp]] W fun e w' => e = .returned (.agg #[.int .i64 mm.rc, .int .i64 mm.rn, .slice a1 k1 p1]) ∧ Below W.heap.size W w'
set_option maxHeartbeats 3200000 in
set_option maxRecDepth 1000000 in
theorem takeReplyV {P : Nat} {x : Px} {b m n1 n2 : Int} {cs : List Comp} {w w0 : World} (h : All (pxL P x b m n1 n2 ++ cs) w) (hin : inC w0 ∈ cs) (mm : Ms) {a1 : Option Addr} {k1 p1 : Nat} (hz : CopV w0 mm a1 k1 p1) : Calls Tryz.prog 58 #[.pointer (some ⟨P, 0, none⟩), .agg mm.cells.toArray] w fun e w' => e = .returned (.agg (ansA mm (.slice a1 k1 p1)).toArray) ∧ All (pxL P (x.reply mm) b m b n2 ++ cs) w' := by
  obtain ⟨M, hM⟩ : ∃ M, Hid (M = w.heap.size) := ⟨_, hid rfl⟩
  obtain ⟨G, hG⟩ : ∃ G, Hid (G = w.heap.size + 1) := ⟨_, hid rfl⟩
  have A1 : Hid (All (blkC M mm.cells 51 :: blkC G [.bool false, .int .i64 0, .int .i64 0, .int .i64 0, .int .i64 0, .int .i64 0, .slice none 0 0] 97 :: (pxL P x b m n1 n2 ++ cs)) ((w.alloc (.cells mm.cells.toArray 51)).alloc (.cells #[.bool false, .int .i64 0, .int .i64 0, .int .i64 0, .int .i64 0, .int .i64 0, .slice none 0 0] 97))) := hid (by
    have := ((h.addBlk mm.cells 51).addBlk [.bool false, .int .i64 0, .int .i64 0, .int .i64 0, .int .i64 0, .int .i64 0, .slice none 0 0] 97).swap
    simp only [World.size_alloc] at this
    rw [hM.out, hG.out]
    exact this)
  have C60 : Hid (∀ W, All (blkC M mm.cells 51 :: blkC G [.bool false, .int .i64 0, .int .i64 0, .int .i64 0, .int .i64 0, .int .i64 0, .slice none 0 0] 97 :: (pxL P x b m n1 n2 ++ cs)) W → Calls Tryz.prog 95 #[.pointer (some ⟨P, 4, none⟩)] W fun e w' => e = .returned (.tuple #[]) ∧ All (blkC M mm.cells 51 :: blkC G [.bool false, .int .i64 0, .int .i64 0, .int .i64 0, .int .i64 0, .int .i64 0, .slice none 0 0] 97 :: (pxL P { x with rq := x.rq.ended } b m b n2 ++ cs)) w') := hid (fun W hW => by
    have h1 := hW.perm (show List.Perm _ (pxL P x b m n1 n2 ++ (blkC M mm.cells 51 :: blkC G [.bool false, .int .i64 0, .int .i64 0, .int .i64 0, .int .i64 0, .int .i64 0, .slice none 0 0] 97 :: cs)) from (((List.Perm.cons _ (List.perm_middle (l₁ := pxL P x b m n1 n2)).symm).trans (List.perm_middle (l₁ := pxL P x b m n1 n2)).symm)))
    refine (endR h1).mono ?_
    rintro e w' ⟨a1, a2⟩
    exact ⟨a1, a2.perm (((List.Perm.cons _ (List.perm_middle (l₁ := pxL P { x with rq := x.rq.ended } b m b n2)).symm).trans (List.perm_middle (l₁ := pxL P { x with rq := x.rq.ended } b m b n2)).symm)).symm⟩)
  have C61 : Hid (∀ W ds, All (ds ++ (pxL P (x.reply mm) b m b n2 ++ cs)) W → Calls Tryz.prog 96 #[.agg #[.int .i64 mm.rc, .int .i64 mm.rn, .slice mm.ra mm.rl mm.rp]] W fun e w' => e = .returned (.agg #[.int .i64 mm.rc, .int .i64 mm.rn, .slice a1 k1 p1]) ∧ Below W.heap.size W w') := hid (fun W ds h => hz W (h.into (by simp [hin])))
  have HM : Hid (∀ W cs', All (blkC M mm.cells 51 :: cs') W → (fun W => W.cell? ⟨M, 3, none⟩ = some (.int .i64 mm.v) ∧ W.cell? ⟨M, 4, none⟩ = some (.int .i64 mm.n)) W) := hid (fun W cs' hW => ⟨by rw [cell_at hW.1.2.1]; rfl, by rw [cell_at hW.1.2.1]; rfl⟩)
  have SH3 : Hid (∀ W cs', All (blkC M mm.cells 51 :: cs') W → (fun W => W.cell? ⟨M, 8, none⟩ = some (.int .i64 mm.q) ∧ W.cell? ⟨M, 4, none⟩ = some (.int .i64 mm.n) ∧ W.cell? ⟨M, 15, none⟩ = some (.int .i64 mm.rc) ∧ W.cell? ⟨M, 16, none⟩ = some (.int .i64 mm.rn) ∧ W.cell? ⟨M, 17, none⟩ = some (.slice mm.ra mm.rl mm.rp)) W) := hid (fun W cs' hW => ⟨by rw [cell_at hW.1.2.1]; rfl, by rw [cell_at hW.1.2.1]; rfl, by rw [cell_at hW.1.2.1]; rfl, by rw [cell_at hW.1.2.1]; rfl, by rw [cell_at hW.1.2.1]; rfl⟩)
  have I48 : Hid (∀ v, (Tryz.prog.info? 97).map (·.size) = some (ansA mm v).toArray.size) := hid (fun v => info48)
  have O48 : Hid ((ansA mm (.slice a1 k1 p1)).toArray.all (·.oneCell') = true) := hid (by simp [ansA, Value.oneCell'])
  have Z48 : Hid (∀ v, ([.bool false, .int .i64 0, .int .i64 0, .int .i64 0, .int .i64 0, .int .i64 0, .slice none 0 0] : List Value).toArray.size = (ansA mm v).toArray.size) := hid (fun v => rfl)
  obtain ⟨PM, hPM⟩ : ∃ PM, Hid (PM = mm.cells.toArray) := ⟨_, hid rfl⟩
  rw [← hPM.out] at A1 ⊢
  clear h hz hin
  go_enter Tryz.func58, Tryz.ntmps58
  go_upto_region 1 with fail
  simp only [← hM.out]
  have eG : M + 1 = G := by rw [hM.out, hG.out]
  simp only [eG]
  clear eG
  generalize (w.alloc (.cells PM 51)).alloc (.cells #[.bool false, .int .i64 0, .int .i64 0, .int .i64 0, .int .i64 0, .int .i64 0, .slice none 0 0] 97) = w1 at A1 ⊢
  go_wp2_with fail
  refine (C60.out _ A1.out).mono ?_
  rintro e w2 ⟨rfl, hw2⟩
  have A2 := hid hw2
  clear hw2 C60 A1
  go_upto_region 2 with fail
  have A3 := hid A2.out.drew
  have p0 := hid (HM.out _ _ A3.out)
  have c2 : w2.drew.cell? ⟨P, 2, none⟩ = some (.int .i64 x.view) := by rw [cell_at A3.out.tail.tail.px]; rfl
  have c3 : w2.drew.cell? ⟨P, 3, none⟩ = some (.int .i64 x.seen) := by rw [cell_at A3.out.tail.tail.px]; rfl
  have g2 : w2.drew.frozen? ⟨P, 2, none⟩ = false := free_at A3.out.tail.tail.px 2
  have g3 : w2.drew.frozen? ⟨P, 3, none⟩ = false := free_at A3.out.tail.tail.px 3
  have B1 := (A3.out.perm (show List.Perm _ (pxL P { x with rq := x.rq.ended } b m b n2 ++ (blkC M mm.cells 51 :: blkC G [.bool false, .int .i64 0, .int .i64 0, .int .i64 0, .int .i64 0, .int .i64 0, .slice none 0 0] 97 :: cs)) from (((List.Perm.cons _ (List.perm_middle (l₁ := pxL P { x with rq := x.rq.ended } b m b n2)).symm).trans (List.perm_middle (l₁ := pxL P { x with rq := x.rq.ended } b m b n2)).symm)))).setBlk 2 (.int .i64 (max x.view mm.v))
  have B2 := B1.setBlk 3 (.int .i64 (max x.seen mm.n))
  have p1 := hid (HM.out _ _ (B1.perm (List.perm_middle (a := blkC M mm.cells 51) (l₁ := blkC P _ 111 :: boC x.rq.pb b m b :: [boC x.qu.pb b m n2]))))
  have p2 := hid (HM.out _ _ (B2.perm (List.perm_middle (a := blkC M mm.cells 51) (l₁ := blkC P _ 111 :: boC x.rq.pb b m b :: [boC x.qu.pb b m n2]))))
  have B3 : Hid (All (blkC M mm.cells 51 :: blkC G [.bool false, .int .i64 0, .int .i64 0, .int .i64 0, .int .i64 0, .int .i64 0, .slice none 0 0] 97 :: (pxL P (x.reply mm) b m b n2 ++ cs)) ((w2.drew.setCell ⟨P, 2, none⟩ (.int .i64 (max x.view mm.v))).setCell ⟨P, 3, none⟩ (.int .i64 (max x.seen mm.n)))) := hid (All.perm (((List.Perm.cons _ (List.perm_middle (l₁ := pxL P (x.reply mm) b m b n2)).symm).trans (List.perm_middle (l₁ := pxL P (x.reply mm) b m b n2)).symm)).symm B2)
  clear B1 B2
  obtain ⟨m3, m4⟩ := p0.out
  have k2 : w2.cell? ⟨P, 2, none⟩ = some (.int .i64 x.view) := c2
  have k3 : w2.cell? ⟨P, 3, none⟩ = some (.int .i64 x.seen) := c3
  have j2 : w2.frozen? ⟨P, 2, none⟩ = false := g2
  have j3 : w2.frozen? ⟨P, 3, none⟩ = false := g3
  have u3 : w2.cell? ⟨M, 3, none⟩ = some (.int .i64 mm.v) := m3
  have u4 : w2.cell? ⟨M, 4, none⟩ = some (.int .i64 mm.n) := m4
  go_cut [] (fun wx => Hid (All (blkC M mm.cells 51 :: blkC G [.bool false, .int .i64 0, .int .i64 0, .int .i64 0, .int .i64 0, .int .i64 0, .slice none 0 0] 97 :: (pxL P (x.reply mm) b m b n2 ++ cs)) wx))
  case first =>
    go_region
    all_goals
      go_wp2_with fail
      go_meet
      exact B3
  case rest =>
  have A4 := hcut
  clear p0 p1 p2 c2 c3 g2 g3 B3 A3 A2 m3 m4 hcut k2 k3 j2 j3 u3 u4
  go_upto_region 3 with fail
  have A5 := hid A4.out.drew
  have r0 := hid (SH3.out _ _ A5.out)
  refine wp_region_held_drew (S := (fun W => W.cell? ⟨M, 8, none⟩ = some (.int .i64 mm.q) ∧ W.cell? ⟨M, 4, none⟩ = some (.int .i64 mm.n) ∧ W.cell? ⟨M, 15, none⟩ = some (.int .i64 mm.rc) ∧ W.cell? ⟨M, 16, none⟩ = some (.int .i64 mm.rn) ∧ W.cell? ⟨M, 17, none⟩ = some (.slice mm.ra mm.rl mm.rp))) (by kernel_rfl) r0.out (fun hHeld => ?_)
  refine wpAnyH_take (i := 0) (oi := { dst := some 30, op := Go.Op.fieldAddr 51 (Go.Operand.tmp 3) 8, type := 0, pos := "proxy.go:80", after := #[], guard := none }) (v := ?_) rfl (by kernel_rfl) (by kernel_rfl) (by kernel_rfl) (fun _ _ _ h => h) (Or.inl ⟨by rfl, ?_⟩) hHeld ?_
  rotate_left
  · intro W hSw
    (try dsimp only at hSw)
    go_simp
    (try with_reducible rfl)
  (try simp only [Act.put, List.setIfInBounds_toArray, List.set_cons_zero, List.set_cons_succ])
  refine wpAnyH_take (i := 1) (oi := { dst := some 31, op := Go.Op.load 3 (Go.Operand.tmp 30), type := 3, pos := "proxy.go:80", after := #[{ on := 0, ground := Go.Ground.data }], guard := none }) (v := ?_) rfl (by kernel_rfl) (by kernel_rfl) (by kernel_rfl) (fun _ _ _ h => h) (Or.inl ⟨by rfl, ?_⟩) hHeld ?_
  rotate_left
  · intro W hSw
    (try dsimp only at hSw)
    go_simp
    (try with_reducible rfl)
  (try simp only [Act.put, List.setIfInBounds_toArray, List.set_cons_zero, List.set_cons_succ])
  refine wpAnyH_take (i := 2) (oi := { dst := some 32, op := Go.Op.fieldAddr 51 (Go.Operand.tmp 3) 4, type := 0, pos := "proxy.go:80", after := #[], guard := none }) (v := ?_) rfl (by kernel_rfl) (by kernel_rfl) (by kernel_rfl) (fun _ _ _ h => h) (Or.inl ⟨by rfl, ?_⟩) hHeld ?_
  rotate_left
  · intro W hSw
    (try dsimp only at hSw)
    go_simp
    (try with_reducible rfl)
  (try simp only [Act.put, List.setIfInBounds_toArray, List.set_cons_zero, List.set_cons_succ])
  refine wpAnyH_take (i := 3) (oi := { dst := some 33, op := Go.Op.load 3 (Go.Operand.tmp 32), type := 3, pos := "proxy.go:80", after := #[{ on := 2, ground := Go.Ground.data }], guard := none }) (v := ?_) rfl (by kernel_rfl) (by kernel_rfl) (by kernel_rfl) (fun _ _ _ h => h) (Or.inl ⟨by rfl, ?_⟩) hHeld ?_
  rotate_left
  · intro W hSw
    (try dsimp only at hSw)
    go_simp
    (try with_reducible rfl)
  (try simp only [Act.put, List.setIfInBounds_toArray, List.set_cons_zero, List.set_cons_succ])
  refine wpAnyH_take (i := 4) (oi := { dst := some 34, op := Go.Op.fieldAddr 51 (Go.Operand.tmp 3) 11, type := 0, pos := "proxy.go:80", after := #[], guard := none }) (v := ?_) rfl (by kernel_rfl) (by kernel_rfl) (by kernel_rfl) (fun _ _ _ h => h) (Or.inl ⟨by rfl, ?_⟩) hHeld ?_
  rotate_left
  · intro W hSw
    (try dsimp only at hSw)
    go_simp
    (try with_reducible rfl)
  (try simp only [Act.put, List.setIfInBounds_toArray, List.set_cons_zero, List.set_cons_succ])
  refine wpAnyH_take (i := 5) (oi := { dst := some 35, op := Go.Op.load 45 (Go.Operand.tmp 34), type := 45, pos := "proxy.go:80", after := #[{ on := 4, ground := Go.Ground.data }], guard := none }) (v := ?_) rfl (by kernel_rfl) (by kernel_rfl) (by kernel_rfl) (fun _ _ _ h => h) (Or.inl ⟨by rfl, ?_⟩) hHeld ?_
  rotate_left
  · intro W hSw
    (try dsimp only at hSw)
    go_simp
    (try with_reducible rfl)
  (try simp only [Act.put, List.setIfInBounds_toArray, List.set_cons_zero, List.set_cons_succ])
  refine wpAnyH_ready (rs := [6]) (by kernel_rfl) (by simp) ?_
  refine AllReadyH.cons (o := { dst := some 36, op := Go.Op.call { callee := Go.Callee.value (Go.Operand.func 96), args := #[Go.Operand.tmp 35], argTypes := #[45] }, type := 45, pos := "proxy.go:80", after := #[{ on := 5, ground := Go.Ground.data }], guard := none }) rfl (fun K hK => ?_) AllReadyH.nil
  go_simp
  refine (C61.out _ [_, _] A5.out).mono ?_; rintro e w6 ⟨rfl, BB⟩; have A6 := hid (A5.out.later BB); have r1 := hid (SH3.out _ _ A6.out); clear BB
  refine hK.out _ _ r1.out (fun hHeld => ?_)
  clear hK K
  (try simp only [Act.put, List.setIfInBounds_toArray, List.set_cons_zero, List.set_cons_succ])
  refine wpAnyH_take (i := 7) (oi := { dst := some 37, op := Go.Op.build 97 #[(1, Go.Operand.tmp 31), (2, Go.Operand.tmp 33), (4, Go.Operand.tmp 36)], type := 97, pos := "proxy.go:80", after := #[{ on := 1, ground := Go.Ground.data }, { on := 3, ground := Go.Ground.data }, { on := 6, ground := Go.Ground.data }], guard := none }) (v := .agg (ansA mm (.slice a1 k1 p1)).toArray) rfl (by kernel_rfl) (by kernel_rfl) (by kernel_rfl) (fun _ _ _ h => h) (yieldsIf_build (by rfl) 97 _ rfl (ansA mm (.slice a1 k1 p1)).toArray (by kernel_rfl)) hHeld ?_
  (try simp only [Act.put, List.setIfInBounds_toArray, List.set_cons_zero, List.set_cons_succ])
  have A7 := hid (((A6.out.swap.setRow (vs' := ansA mm (.slice a1 k1 p1)))))
  have r2 := hid (SH3.out _ _ A7.out.swap)
  have hg2 := hid A6.out.tail.1.2.1
  refine wpAnyH_ready (rs := [8]) (by kernel_rfl) (by simp) ?_
  refine AllReadyH.cons (o := { dst := none, op := Go.Op.store 97 (Go.Operand.tmp 4) (Go.Operand.tmp 37), type := 0, pos := "proxy.go:80", after := #[{ on := 7, ground := Go.Ground.data }, { on := 6, ground := Go.Ground.chain }, { on := 0, ground := Go.Ground.phase }, { on := 1, ground := Go.Ground.phase }, { on := 2, ground := Go.Ground.phase }, { on := 3, ground := Go.Ground.phase }, { on := 4, ground := Go.Ground.phase }, { on := 5, ground := Go.Ground.phase }, { on := 6, ground := Go.Ground.phase }, { on := 7, ground := Go.Ground.phase }], guard := none }) rfl (fun K hK => ?_) AllReadyH.nil
  rw [if_pos (by rfl)]
  refine wp_store_row 97 _ _ rfl G (ansA mm (.slice a1 k1 p1)).toArray rfl rfl 97 _ hg2.out (I48.out _) (Z48.out _) (O48.out) ?_
  refine hK.out _ _ r2.out (fun hHeld => ?_)
  clear hK K
  (try simp only [Act.put])
  refine wpAnyH_done (by kernel_rfl) ?_ _
  clear hHeld
  clear r0 r1 r2 hg2
  go_wp2
  refine bodyPost_ret (v := .agg (ansA mm (.slice a1 k1 p1)).toArray) (results_cell_row (fn := Tryz.f58) rfl _ _ G 97 (ansA mm (.slice a1 k1 p1)).toArray (0, 0) _ rfl A7.out.1.2.1 Tryz.underlying97 rfl (I48.out _)) rfl ?_
  exact ⟨rfl, A7.out.tail.tail⟩
end Go.Proofs.YtdhkdniddjnigaaGreatDoor

namespace Go.Proofs.YtdhkdniddjnigaaGreatDoor
open Go.RowKit
set_option linter.unusedVariables false

set_option maxHeartbeats 3200000 in
set_option maxRecDepth 1000000 in
theorem takeToldV {P : Nat} {x : Px} {b m n1 n2 : Int} {cs : List Comp} {w w0 : World} (h : All (pxL P x b m n1 n2 ++ cs) w) (hin : inC w0 ∈ cs) (mm : Ms) {a1 : Option Addr} {k1 p1 : Nat} (hz : CopV w0 mm a1 k1 p1) : Calls Tryz.prog 59 #[.pointer (some ⟨P, 0, none⟩), .agg mm.cells.toArray] w fun e w' => e = .returned (.agg (ansT mm (.slice a1 k1 p1)).toArray) ∧ All (pxL P (x.told mm) b m n1 b ++ cs) w' := by
  obtain ⟨M, hM⟩ : ∃ M, Hid (M = w.heap.size) := ⟨_, hid rfl⟩
  obtain ⟨G, hG⟩ : ∃ G, Hid (G = w.heap.size + 1) := ⟨_, hid rfl⟩
  have A1 : Hid (All (blkC M mm.cells 51 :: blkC G [.bool false, .int .i64 0, .int .i64 0, .int .i64 0, .int .i64 0, .int .i64 0, .slice none 0 0] 97 :: (pxL P x b m n1 n2 ++ cs)) ((w.alloc (.cells mm.cells.toArray 51)).alloc (.cells #[.bool false, .int .i64 0, .int .i64 0, .int .i64 0, .int .i64 0, .int .i64 0, .slice none 0 0] 97))) := hid (by
    have := ((h.addBlk mm.cells 51).addBlk [.bool false, .int .i64 0, .int .i64 0, .int .i64 0, .int .i64 0, .int .i64 0, .slice none 0 0] 97).swap
    simp only [World.size_alloc] at this
    rw [hM.out, hG.out]
    exact this)
  have C62 : Hid (∀ W, All (blkC M mm.cells 51 :: blkC G [.bool false, .int .i64 0, .int .i64 0, .int .i64 0, .int .i64 0, .int .i64 0, .slice none 0 0] 97 :: (pxL P x b m n1 n2 ++ cs)) W → Calls Tryz.prog 97 #[.pointer (some ⟨P, 13, none⟩)] W fun e w' => e = .returned (.tuple #[]) ∧ All (blkC M mm.cells 51 :: blkC G [.bool false, .int .i64 0, .int .i64 0, .int .i64 0, .int .i64 0, .int .i64 0, .slice none 0 0] 97 :: (pxL P x.endq b m n1 b ++ cs)) w') := hid (fun W hW => by
    have h1 := hW.perm (show List.Perm _ (pxL P x b m n1 n2 ++ (blkC M mm.cells 51 :: blkC G [.bool false, .int .i64 0, .int .i64 0, .int .i64 0, .int .i64 0, .int .i64 0, .slice none 0 0] 97 :: cs)) from ((List.Perm.cons _ (List.perm_middle (l₁ := pxL P x b m n1 n2)).symm).trans (List.perm_middle (l₁ := pxL P x b m n1 n2)).symm))
    refine (qend62 h1).mono ?_
    rintro e w' ⟨a1, a2⟩
    exact ⟨a1, a2.perm (((List.Perm.cons _ (List.perm_middle (l₁ := pxL P x.endq b m n1 b)).symm).trans (List.perm_middle (l₁ := pxL P x.endq b m n1 b)).symm)).symm⟩)
  have C61 : Hid (∀ W ds, All (ds ++ (pxL P (x.told mm) b m n1 b ++ cs)) W → Calls Tryz.prog 96 #[.agg #[.int .i64 mm.rc, .int .i64 mm.rn, .slice mm.ra mm.rl mm.rp]] W fun e w' => e = .returned (.agg #[.int .i64 mm.rc, .int .i64 mm.rn, .slice a1 k1 p1]) ∧ Below W.heap.size W w') := hid (fun W ds h => hz W (h.into (by simp [hin])))
  have HM : Hid (∀ W cs', All (blkC M mm.cells 51 :: cs') W → W.cell? ⟨M, 4, none⟩ = some (.int .i64 mm.n)) := hid (fun W cs' hW => by rw [cell_at hW.1.2.1]; rfl)
  have SH3 : Hid (∀ W cs', All (blkC M mm.cells 51 :: cs') W → (fun W => W.cell? ⟨M, 8, none⟩ = some (.int .i64 mm.q) ∧ W.cell? ⟨M, 4, none⟩ = some (.int .i64 mm.n) ∧ W.cell? ⟨M, 1, none⟩ = some (.int .i64 mm.f) ∧ W.cell? ⟨M, 15, none⟩ = some (.int .i64 mm.rc) ∧ W.cell? ⟨M, 16, none⟩ = some (.int .i64 mm.rn) ∧ W.cell? ⟨M, 17, none⟩ = some (.slice mm.ra mm.rl mm.rp)) W) := hid (fun W cs' hW => ⟨by rw [cell_at hW.1.2.1]; rfl, by rw [cell_at hW.1.2.1]; rfl, by rw [cell_at hW.1.2.1]; rfl, by rw [cell_at hW.1.2.1]; rfl, by rw [cell_at hW.1.2.1]; rfl, by rw [cell_at hW.1.2.1]; rfl⟩)
  have I48 : Hid (∀ v, (Tryz.prog.info? 97).map (·.size) = some (ansT mm v).toArray.size) := hid (fun v => info48)
  have O48 : Hid ((ansT mm (.slice a1 k1 p1)).toArray.all (·.oneCell') = true) := hid (by simp [ansT, Value.oneCell'])
  have Z48 : Hid (∀ v, ([.bool false, .int .i64 0, .int .i64 0, .int .i64 0, .int .i64 0, .int .i64 0, .slice none 0 0] : List Value).toArray.size = (ansT mm v).toArray.size) := hid (fun v => rfl)
  obtain ⟨PM, hPM⟩ : ∃ PM, Hid (PM = mm.cells.toArray) := ⟨_, hid rfl⟩
  rw [← hPM.out] at A1 ⊢
  clear h hz hin
  go_enter Tryz.func59, Tryz.ntmps59
  go_upto_region 1 with fail
  simp only [← hM.out]
  have eG : M + 1 = G := by rw [hM.out, hG.out]
  simp only [eG]
  clear eG
  generalize (w.alloc (.cells PM 51)).alloc (.cells #[.bool false, .int .i64 0, .int .i64 0, .int .i64 0, .int .i64 0, .int .i64 0, .slice none 0 0] 97) = w1 at A1 ⊢
  go_upto_region 2 with (go_at_call 97; refine (C62.out _ A1.out).mono ?_; rintro e w2 ⟨rfl, hw2⟩; have A2 := hid hw2; clear hw2)
  clear C62 A1
  have A3 := hid A2.out.drew
  have c3 : w2.drew.cell? ⟨P, 3, none⟩ = some (.int .i64 x.seen) := by rw [cell_at A3.out.tail.tail.px]; rfl
  have g3 : w2.drew.frozen? ⟨P, 3, none⟩ = false := free_at A3.out.tail.tail.px 3
  have B1 := (A3.out.perm (show List.Perm _ (pxL P x.endq b m n1 b ++ (blkC M mm.cells 51 :: blkC G [.bool false, .int .i64 0, .int .i64 0, .int .i64 0, .int .i64 0, .int .i64 0, .slice none 0 0] 97 :: cs)) from ((List.Perm.cons _ (List.perm_middle (l₁ := pxL P x.endq b m n1 b)).symm).trans (List.perm_middle (l₁ := pxL P x.endq b m n1 b)).symm))).setBlk 3 (.int .i64 (max x.seen mm.n))
  have B3 : Hid (All (blkC M mm.cells 51 :: blkC G [.bool false, .int .i64 0, .int .i64 0, .int .i64 0, .int .i64 0, .int .i64 0, .slice none 0 0] 97 :: (pxL P (x.told mm) b m n1 b ++ cs)) (w2.drew.setCell ⟨P, 3, none⟩ (.int .i64 (max x.seen mm.n)))) := hid (All.perm (((List.Perm.cons _ (List.perm_middle (l₁ := pxL P (x.told mm) b m n1 b)).symm).trans (List.perm_middle (l₁ := pxL P (x.told mm) b m n1 b)).symm)).symm B1)
  clear B1
  have m4 := HM.out _ _ A3.out
  have k3 : w2.cell? ⟨P, 3, none⟩ = some (.int .i64 x.seen) := c3
  have j3 : w2.frozen? ⟨P, 3, none⟩ = false := g3
  have u4 : w2.cell? ⟨M, 4, none⟩ = some (.int .i64 mm.n) := m4
  go_cut [] (fun wx => Hid (All (blkC M mm.cells 51 :: blkC G [.bool false, .int .i64 0, .int .i64 0, .int .i64 0, .int .i64 0, .int .i64 0, .slice none 0 0] 97 :: (pxL P (x.told mm) b m n1 b ++ cs)) wx))
  case first =>
    go_region
    all_goals
      go_wp2_with fail
      go_meet
      exact B3
  case rest =>
  have A4 := hcut
  clear c3 g3 B3 A3 A2 m4 hcut k3 j3 u4
  go_upto_region 3 with fail
  have A5 := hid A4.out.drew
  have r0 := hid (SH3.out _ _ A5.out)
  refine wp_region_held_drew (S := (fun W => W.cell? ⟨M, 8, none⟩ = some (.int .i64 mm.q) ∧ W.cell? ⟨M, 4, none⟩ = some (.int .i64 mm.n) ∧ W.cell? ⟨M, 1, none⟩ = some (.int .i64 mm.f) ∧ W.cell? ⟨M, 15, none⟩ = some (.int .i64 mm.rc) ∧ W.cell? ⟨M, 16, none⟩ = some (.int .i64 mm.rn) ∧ W.cell? ⟨M, 17, none⟩ = some (.slice mm.ra mm.rl mm.rp))) (by kernel_rfl) r0.out (fun hHeld => ?_)
  refine wpAnyH_take (i := 0) (oi := { dst := Option.some 19, op := Go.Op.fieldAddr 51 (Go.Operand.tmp 3) 8, type := 0, pos := "proxy.go:86", after := #[], guard := Option.none }) (v := ?_) rfl (by kernel_rfl) (by kernel_rfl) (by kernel_rfl) (fun _ _ _ h => h) (Or.inl ⟨by rfl, ?_⟩) hHeld ?_
  rotate_left
  · intro W hSw
    (try dsimp only at hSw)
    go_simp
    (try with_reducible rfl)
  (try simp only [Act.put, List.setIfInBounds_toArray, List.set_cons_zero, List.set_cons_succ])
  refine wpAnyH_take (i := 1) (oi := { dst := Option.some 20, op := Go.Op.load 3 (Go.Operand.tmp 19), type := 3, pos := "proxy.go:86", after := #[{ on := 0, ground := Go.Ground.data }], guard := Option.none }) (v := ?_) rfl (by kernel_rfl) (by kernel_rfl) (by kernel_rfl) (fun _ _ _ h => h) (Or.inl ⟨by rfl, ?_⟩) hHeld ?_
  rotate_left
  · intro W hSw
    (try dsimp only at hSw)
    go_simp
    (try with_reducible rfl)
  (try simp only [Act.put, List.setIfInBounds_toArray, List.set_cons_zero, List.set_cons_succ])
  refine wpAnyH_take (i := 2) (oi := { dst := Option.some 21, op := Go.Op.fieldAddr 51 (Go.Operand.tmp 3) 4, type := 0, pos := "proxy.go:86", after := #[], guard := Option.none }) (v := ?_) rfl (by kernel_rfl) (by kernel_rfl) (by kernel_rfl) (fun _ _ _ h => h) (Or.inl ⟨by rfl, ?_⟩) hHeld ?_
  rotate_left
  · intro W hSw
    (try dsimp only at hSw)
    go_simp
    (try with_reducible rfl)
  (try simp only [Act.put, List.setIfInBounds_toArray, List.set_cons_zero, List.set_cons_succ])
  refine wpAnyH_take (i := 3) (oi := { dst := Option.some 22, op := Go.Op.load 3 (Go.Operand.tmp 21), type := 3, pos := "proxy.go:86", after := #[{ on := 2, ground := Go.Ground.data }], guard := Option.none }) (v := ?_) rfl (by kernel_rfl) (by kernel_rfl) (by kernel_rfl) (fun _ _ _ h => h) (Or.inl ⟨by rfl, ?_⟩) hHeld ?_
  rotate_left
  · intro W hSw
    (try dsimp only at hSw)
    go_simp
    (try with_reducible rfl)
  (try simp only [Act.put, List.setIfInBounds_toArray, List.set_cons_zero, List.set_cons_succ])
  refine wpAnyH_take (i := 4) (oi := { dst := Option.some 23, op := Go.Op.fieldAddr 51 (Go.Operand.tmp 3) 1, type := 0, pos := "proxy.go:86", after := #[], guard := Option.none }) (v := ?_) rfl (by kernel_rfl) (by kernel_rfl) (by kernel_rfl) (fun _ _ _ h => h) (Or.inl ⟨by rfl, ?_⟩) hHeld ?_
  rotate_left
  · intro W hSw
    (try dsimp only at hSw)
    go_simp
    (try with_reducible rfl)
  (try simp only [Act.put, List.setIfInBounds_toArray, List.set_cons_zero, List.set_cons_succ])
  refine wpAnyH_take (i := 5) (oi := { dst := Option.some 24, op := Go.Op.load 3 (Go.Operand.tmp 23), type := 3, pos := "proxy.go:86", after := #[{ on := 4, ground := Go.Ground.data }], guard := Option.none }) (v := ?_) rfl (by kernel_rfl) (by kernel_rfl) (by kernel_rfl) (fun _ _ _ h => h) (Or.inl ⟨by rfl, ?_⟩) hHeld ?_
  rotate_left
  · intro W hSw
    (try dsimp only at hSw)
    go_simp
    (try with_reducible rfl)
  (try simp only [Act.put, List.setIfInBounds_toArray, List.set_cons_zero, List.set_cons_succ])
  refine wpAnyH_take (i := 6) (oi := { dst := Option.some 25, op := Go.Op.fieldAddr 51 (Go.Operand.tmp 3) 11, type := 0, pos := "proxy.go:86", after := #[], guard := Option.none }) (v := ?_) rfl (by kernel_rfl) (by kernel_rfl) (by kernel_rfl) (fun _ _ _ h => h) (Or.inl ⟨by rfl, ?_⟩) hHeld ?_
  rotate_left
  · intro W hSw
    (try dsimp only at hSw)
    go_simp
    (try with_reducible rfl)
  (try simp only [Act.put, List.setIfInBounds_toArray, List.set_cons_zero, List.set_cons_succ])
  refine wpAnyH_take (i := 7) (oi := { dst := Option.some 26, op := Go.Op.load 45 (Go.Operand.tmp 25), type := 45, pos := "proxy.go:86", after := #[{ on := 6, ground := Go.Ground.data }], guard := Option.none }) (v := ?_) rfl (by kernel_rfl) (by kernel_rfl) (by kernel_rfl) (fun _ _ _ h => h) (Or.inl ⟨by rfl, ?_⟩) hHeld ?_
  rotate_left
  · intro W hSw
    (try dsimp only at hSw)
    go_simp
    (try with_reducible rfl)
  (try simp only [Act.put, List.setIfInBounds_toArray, List.set_cons_zero, List.set_cons_succ])
  refine wpAnyH_ready (rs := [8]) (by kernel_rfl) (by simp) ?_
  refine AllReadyH.cons (o := { dst := Option.some 27, op := Go.Op.call { callee := Go.Callee.value (Go.Operand.func 96), args := #[Go.Operand.tmp 26], argTypes := #[45] }, type := 45, pos := "proxy.go:86", after := #[{ on := 7, ground := Go.Ground.data }], guard := Option.none }) rfl (fun K hK => ?_) AllReadyH.nil
  go_simp
  refine (C61.out _ [_, _] A5.out).mono ?_; rintro e w6 ⟨rfl, BB⟩; have A6 := hid (A5.out.later BB); have r1 := hid (SH3.out _ _ A6.out); clear BB
  refine hK.out _ _ r1.out (fun hHeld => ?_)
  clear hK K
  (try simp only [Act.put, List.setIfInBounds_toArray, List.set_cons_zero, List.set_cons_succ])
  refine wpAnyH_take (i := 9) (oi := { dst := Option.some 28, op := Go.Op.build 97 #[(0, Go.Operand.const (Go.Value.bool Bool.true)), (1, Go.Operand.tmp 20), (2, Go.Operand.tmp 22), (3, Go.Operand.tmp 24), (4, Go.Operand.tmp 27)], type := 97, pos := "proxy.go:86", after := #[{ on := 1, ground := Go.Ground.data }, { on := 3, ground := Go.Ground.data }, { on := 5, ground := Go.Ground.data }, { on := 8, ground := Go.Ground.data }], guard := Option.none }) (v := .agg (ansT mm (.slice a1 k1 p1)).toArray) rfl (by kernel_rfl) (by kernel_rfl) (by kernel_rfl) (fun _ _ _ h => h) (yieldsIf_build (by rfl) 97 _ rfl (ansT mm (.slice a1 k1 p1)).toArray (by kernel_rfl)) hHeld ?_
  (try simp only [Act.put, List.setIfInBounds_toArray, List.set_cons_zero, List.set_cons_succ])
  have A7 := hid (A6.out.swap.setRow (vs' := ansT mm (.slice a1 k1 p1)))
  have r2 := hid (SH3.out _ _ A7.out.swap)
  have hg2 := hid A6.out.tail.1.2.1
  refine wpAnyH_ready (rs := [10]) (by kernel_rfl) (by simp) ?_
  refine AllReadyH.cons (o := { dst := Option.none, op := Go.Op.store 97 (Go.Operand.tmp 4) (Go.Operand.tmp 28), type := 0, pos := "proxy.go:86", after := #[{ on := 9, ground := Go.Ground.data }, { on := 8, ground := Go.Ground.chain }, { on := 0, ground := Go.Ground.phase }, { on := 1, ground := Go.Ground.phase }, { on := 2, ground := Go.Ground.phase }, { on := 3, ground := Go.Ground.phase }, { on := 4, ground := Go.Ground.phase }, { on := 5, ground := Go.Ground.phase }, { on := 6, ground := Go.Ground.phase }, { on := 7, ground := Go.Ground.phase }, { on := 8, ground := Go.Ground.phase }, { on := 9, ground := Go.Ground.phase }], guard := Option.none }) rfl (fun K hK => ?_) AllReadyH.nil
  rw [if_pos (by rfl)]
  refine wp_store_row 97 _ _ rfl G (ansT mm (.slice a1 k1 p1)).toArray rfl rfl 97 _ hg2.out (I48.out _) (Z48.out _) (O48.out) ?_
  refine hK.out _ _ r2.out (fun hHeld => ?_)
  clear hK K
  (try simp only [Act.put])
  refine wpAnyH_done (by kernel_rfl) ?_ _
  clear hHeld
  clear r0 r1 r2 hg2
  go_wp2
  refine bodyPost_ret (v := .agg (ansT mm (.slice a1 k1 p1)).toArray) (results_cell_row (fn := Tryz.f59) rfl _ _ G 97 (ansT mm (.slice a1 k1 p1)).toArray (0, 0) _ rfl A7.out.1.2.1 Tryz.underlying97 rfl (I48.out _)) rfl ?_
  exact ⟨rfl, A7.out.tail.tail⟩
end Go.Proofs.YtdhkdniddjnigaaGreatDoor

import Derived.Test.YteloaggebkbeeaaDoorJ16
import Derived.Test.YteloaggebkbeeaaDoorPx12
import Derived.Test.YteloaggebkbeeaaDoorJ15
namespace Go.Proofs.YteloaggebkbeeaaDoor
open Go.RowKit
set_option linter.unusedVariables false

set_option maxHeartbeats 3200000 in
set_option maxRecDepth 1000000 in
/-- A reply that fits what waits. -/
theorem step_replyA {P : Nat} {x : Px} {b m n1 n2 : Int} {cs : List Comp} {w w0 : World} (h : All (pxL P x b m n1 n2 ++ cs) w) (hin : inC w0 ∈ cs) (mm : Ms) (hz : CopR w0 mm) (hC : ∀ W, Below w0.heap.size w0 W → Calls Tryd.prog 35 #[.int .i64 x.n, .agg mm.cells.toArray] W fun e w' => e = .returned (.int .i64 0) ∧ Below W.heap.size W w')
    (ht : mm.t = x.id) (hk : mm.k = 2) (hw : x.rq.wts = true) (hq : x.rq.num = mm.q) : Calls Tryd.prog 15 #[.pointer (some ⟨P, 0, none⟩), .agg mm.cells.toArray] w fun e w' => ∃ a1 k1 p1, e = .returned (.tuple #[.agg (ansA mm (.slice a1 k1 p1)).toArray, .bool true]) ∧ All (pxL P (x.reply mm) b m b n2 ++ cs) w' := by
  obtain ⟨M, hM⟩ : ∃ M, Hid (M = w.heap.size) := ⟨_, hid rfl⟩
  obtain ⟨G, hG⟩ : ∃ G, Hid (G = w.heap.size + 1) := ⟨_, hid rfl⟩
  have A1 : Hid (All (blkC M mm.cells 41 :: blkC G [.bool false, .int .i64 0, .int .i64 0, .int .i64 0, .int .i64 0, .int .i64 0, .slice none 0 0] 48 :: (pxL P x b m n1 n2 ++ cs)) ((w.alloc (.cells mm.cells.toArray 41)).alloc (.cells #[.bool false, .int .i64 0, .int .i64 0, .int .i64 0, .int .i64 0, .int .i64 0, .slice none 0 0] 48))) := hid (by
    have := ((h.addBlk mm.cells 41).addBlk [.bool false, .int .i64 0, .int .i64 0, .int .i64 0, .int .i64 0, .int .i64 0, .slice none 0 0] 48).swap
    simp only [World.size_alloc] at this
    rw [hM.out, hG.out]
    exact this)
  have C35 : Hid (∀ W, All (blkC M mm.cells 41 :: blkC G [.bool false, .int .i64 0, .int .i64 0, .int .i64 0, .int .i64 0, .int .i64 0, .slice none 0 0] 48 :: (pxL P x b m n1 n2 ++ cs)) W → Calls Tryd.prog 35 #[.int .i64 x.n, .agg mm.cells.toArray] W fun e w' => e = .returned (.int .i64 0) ∧ Below W.heap.size W w') := hid (fun W hW => hC W (hW.into (by simp [hin])))
  have C36 : Hid (∀ W, All (blkC M mm.cells 41 :: blkC G [.bool false, .int .i64 0, .int .i64 0, .int .i64 0, .int .i64 0, .int .i64 0, .slice none 0 0] 48 :: (pxL P x b m n1 n2 ++ cs)) W → Calls Tryd.prog 36 #[.pointer (some ⟨P, 4, none⟩), .int .i64 mm.q] W fun e w' => e = .returned (.bool true) ∧ w' = W) := hid (fun W hW => by
    have := awaitsR hW.tail.tail mm.q
    rw [hw, hq] at this
    simpa using this)
  have C37 : Hid (∀ W, All (blkC M mm.cells 41 :: blkC G [.bool false, .int .i64 0, .int .i64 0, .int .i64 0, .int .i64 0, .int .i64 0, .slice none 0 0] 48 :: (pxL P x b m n1 n2 ++ cs)) W → Calls Tryd.prog 37 #[.pointer (some ⟨P, 0, none⟩), .agg mm.cells.toArray] W fun e w' => ∃ a1 k1 p1, e = .returned (.agg (ansA mm (.slice a1 k1 p1)).toArray) ∧ All (blkC M mm.cells 41 :: blkC G [.bool false, .int .i64 0, .int .i64 0, .int .i64 0, .int .i64 0, .int .i64 0, .slice none 0 0] 48 :: (pxL P (x.reply mm) b m b n2 ++ cs)) w') := hid (fun W hW => by
    have h1 := hW.perm (show List.Perm _ (pxL P x b m n1 n2 ++ (blkC M mm.cells 41 :: blkC G [.bool false, .int .i64 0, .int .i64 0, .int .i64 0, .int .i64 0, .int .i64 0, .slice none 0 0] 48 :: cs)) from (((List.Perm.cons _ (List.perm_middle (l₁ := pxL P x b m n1 n2)).symm).trans (List.perm_middle (l₁ := pxL P x b m n1 n2)).symm)))
    refine (takeReplyA h1 (by simp [hin]) mm hz).mono ?_
    rintro e w' ⟨q1, q2, q3, a1, a2⟩
    exact ⟨q1, q2, q3, a1, a2.perm ((((List.Perm.cons _ (List.perm_middle (l₁ := pxL P (x.reply mm) b m b n2)).symm).trans (List.perm_middle (l₁ := pxL P (x.reply mm) b m b n2)).symm))).symm⟩)
  have SP : Hid (∀ W, All (blkC M mm.cells 41 :: blkC G [.bool false, .int .i64 0, .int .i64 0, .int .i64 0, .int .i64 0, .int .i64 0, .slice none 0 0] 48 :: (pxL P x b m n1 n2 ++ cs)) W → (fun W => W.cell? ⟨P, 0, none⟩ = some (.int .i64 x.n) ∧ W.cell? ⟨P, 1, none⟩ = some (.int .i64 x.id) ∧ W.cell? ⟨M, 2, none⟩ = some (.int .i64 mm.t) ∧ W.rangeAt M 0 mm.cells) W) := hid (fun W hW => ⟨by rw [cell_at hW.tail.tail.px]; rfl, by rw [cell_at hW.tail.tail.px]; rfl, by rw [cell_at hW.1.2.1]; rfl, fun j u hu => by rw [cell_at hW.1.2.1]; simpa using hu⟩)
  have SQ : Hid (∀ W, All (blkC M mm.cells 41 :: blkC G [.bool false, .int .i64 0, .int .i64 0, .int .i64 0, .int .i64 0, .int .i64 0, .slice none 0 0] 48 :: (pxL P x b m n1 n2 ++ cs)) W → (fun W => W.cell? ⟨M, 0, none⟩ = some (.int .i64 2) ∧ W.cell? ⟨M, 8, none⟩ = some (.int .i64 mm.q)) W) := hid (fun W hW => ⟨by rw [cell_at hW.1.2.1, ← hk]; rfl, by rw [cell_at hW.1.2.1]; rfl⟩)
  have e1 : (mm.t != x.id) = false := by rw [ht]; simp
  have I41 : Hid ((Tryd.prog.info? 41).map (·.size) = some mm.cells.length) := hid (by have := info41 mm; simpa using this)
  have J41 := hid (info41 mm)
  have I48 : Hid (∀ v, (Tryd.prog.info? 48).map (·.size) = some (ansA mm v).toArray.size) := hid (fun v => info48)
  have O48 : Hid (∀ a1 k1 p1, (ansA mm (.slice a1 k1 p1)).toArray.all (·.oneCell') = true) := hid (fun a1 k1 p1 => by simp [ansA, Value.oneCell'])
  have Z48 : Hid (∀ v, ([.bool false, .int .i64 0, .int .i64 0, .int .i64 0, .int .i64 0, .int .i64 0, .slice none 0 0] : List Value).toArray.size = (ansA mm v).toArray.size) := hid (fun v => rfl)
  obtain ⟨PM, hPM⟩ : ∃ PM, Hid (PM = mm.cells) := ⟨_, hid rfl⟩
  clear h hin hz hC ht hk hw hq
  go_enter Tryd.func15, Tryd.ntmps15
  go_upto_region 1 with fail
  simp only [← hM.out]
  have eG : M + 1 = G := by rw [hM.out, hG.out]
  simp only [eG]
  clear eG
  generalize (w.alloc (.cells mm.cells.toArray 41)).alloc (.cells #[.bool false, .int .i64 0, .int .i64 0, .int .i64 0, .int .i64 0, .int .i64 0, .slice none 0 0] 48) = w1 at A1 ⊢
  have A2 := hid A1.out.drew
  have p0 := hid (SP.out _ A2.out)
  refine wp_region_held_drew (S := (fun W => W.cell? ⟨P, 0, none⟩ = some (.int .i64 x.n) ∧ W.cell? ⟨P, 1, none⟩ = some (.int .i64 x.id) ∧ W.cell? ⟨M, 2, none⟩ = some (.int .i64 mm.t) ∧ W.rangeAt M 0 mm.cells)) (by kernel_rfl) p0.out (fun hHeld => ?_)
  refine wpAnyH_take (i := 0) (oi := { dst := some 6, op := Go.Op.move (Go.Operand.tmp 0), type := 26, pos := "proxy.go:63", after := #[], guard := none }) (v := ?_) rfl (by kernel_rfl) (by kernel_rfl) (by kernel_rfl) (fun _ _ _ h => h) (Or.inl ⟨by rfl, ?_⟩) hHeld ?_
  rotate_left
  · intro W hSw
    (try dsimp only at hSw)
    go_simp
    (try with_reducible rfl)
  (try simp only [Act.put, List.setIfInBounds_toArray, List.set_cons_zero, List.set_cons_succ])
  refine wpAnyH_take (i := 1) (oi := { dst := some 7, op := Go.Op.nilCheck (Go.Operand.tmp 6), type := 0, pos := "proxy.go:63", after := #[{ on := 0, ground := Go.Ground.data }], guard := none }) (v := ?_) rfl (by kernel_rfl) (by kernel_rfl) (by kernel_rfl) (fun _ _ _ h => h) (Or.inl ⟨by rfl, ?_⟩) hHeld ?_
  rotate_left
  · intro W hSw
    (try dsimp only at hSw)
    go_simp
    (try with_reducible rfl)
  (try simp only [Act.put, List.setIfInBounds_toArray, List.set_cons_zero, List.set_cons_succ])
  refine wpAnyH_take (i := 2) (oi := { dst := some 8, op := Go.Op.fieldAddr 74 (Go.Operand.tmp 7) 0, type := 0, pos := "proxy.go:63", after := #[{ on := 1, ground := Go.Ground.data }], guard := none }) (v := ?_) rfl (by kernel_rfl) (by kernel_rfl) (by kernel_rfl) (fun _ _ _ h => h) (Or.inl ⟨by rfl, ?_⟩) hHeld ?_
  rotate_left
  · intro W hSw
    (try dsimp only at hSw)
    go_simp
    (try with_reducible rfl)
  (try simp only [Act.put, List.setIfInBounds_toArray, List.set_cons_zero, List.set_cons_succ])
  refine wpAnyH_take (i := 3) (oi := { dst := some 9, op := Go.Op.load 3 (Go.Operand.tmp 8), type := 3, pos := "proxy.go:63", after := #[{ on := 2, ground := Go.Ground.data }], guard := none }) (v := ?_) rfl (by kernel_rfl) (by kernel_rfl) (by kernel_rfl) (fun _ _ _ h => h) (Or.inl ⟨by rfl, ?_⟩) hHeld ?_
  rotate_left
  · intro W hSw
    (try dsimp only at hSw)
    go_simp
    (try with_reducible rfl)
  (try simp only [Act.put, List.setIfInBounds_toArray, List.set_cons_zero, List.set_cons_succ])
  refine wpAnyH_take (i := 4) (oi := { dst := some 10, op := Go.Op.load 41 (Go.Operand.tmp 3), type := 41, pos := "proxy.go:63", after := #[], guard := none }) (v := .agg mm.cells.toArray) rfl (by kernel_rfl) (by kernel_rfl) (by kernel_rfl) (fun _ _ _ h => h) (yieldsIf_load_mid (by rfl) 41 (.tmp 3) rfl M 0 rfl mm.cells _ (fun W hW => hW.2.2.2) Tryd.underlying41 rfl I41.out) hHeld ?_
  (try simp only [Act.put, List.setIfInBounds_toArray, List.set_cons_zero, List.set_cons_succ])
  refine wpAnyH_ready (rs := [5]) (by kernel_rfl) (by simp) ?_
  refine AllReadyH.cons (o := { dst := some 11, op := Go.Op.call { callee := Go.Callee.value (Go.Operand.func 35), args := #[Go.Operand.tmp 9, Go.Operand.tmp 10], argTypes := #[3, 41] }, type := 27, pos := "proxy.go:63", after := #[{ on := 3, ground := Go.Ground.data }, { on := 4, ground := Go.Ground.data }], guard := none }) rfl (fun K hK => ?_) AllReadyH.nil
  go_simp
  refine (C35.out _ A2.out).mono ?_; rintro e w3 ⟨rfl, BB⟩; have A3 := hid (A2.out.later BB); have p1 := hid (SP.out _ A3.out); clear BB
  refine hK.out _ _ p1.out (fun hHeld => ?_)
  clear hK K
  (try simp only [Act.put, List.setIfInBounds_toArray, List.set_cons_zero, List.set_cons_succ])
  refine wpAnyH_take (i := 6) (oi := { dst := some 12, op := Go.Op.binOp Go.BinOp.neq 27 (Go.Operand.tmp 11) (Go.Operand.const (Go.Value.int Go.IntKind.i64 0)) 27, type := 4, pos := "proxy.go:63", after := #[{ on := 5, ground := Go.Ground.data }], guard := none }) (v := ?_) rfl (by kernel_rfl) (by kernel_rfl) (by kernel_rfl) (fun _ _ _ h => h) (Or.inl ⟨by rfl, ?_⟩) hHeld ?_
  rotate_left
  · intro W hSw
    (try dsimp only at hSw)
    go_simp
    (try with_reducible rfl)
  (try simp only [Act.put, List.setIfInBounds_toArray, List.set_cons_zero, List.set_cons_succ])
  refine wpAnyH_take (i := 7) (oi := { dst := some 13, op := Go.Op.move (Go.Operand.tmp 12), type := 4, pos := "proxy.go:63", after := #[{ on := 6, ground := Go.Ground.data }, { on := 5, ground := Go.Ground.chain }], guard := none }) (v := ?_) rfl (by kernel_rfl) (by kernel_rfl) (by kernel_rfl) (fun _ _ _ h => h) (Or.inl ⟨by rfl, ?_⟩) hHeld ?_
  rotate_left
  · intro W hSw
    (try dsimp only at hSw)
    go_simp
    (try with_reducible rfl)
  (try simp only [Act.put, List.setIfInBounds_toArray, List.set_cons_zero, List.set_cons_succ])
  refine wpAnyH_take (i := 8) (oi := { dst := some 14, op := Go.Op.fieldAddr 41 (Go.Operand.tmp 3) 2, type := 0, pos := "proxy.go:63", after := #[{ on := 7, ground := Go.Ground.guard }], guard := some (7, false) }) (v := ?_) rfl (by kernel_rfl) (by kernel_rfl) (by kernel_rfl) (fun _ _ _ h => h) (Or.inl ⟨by rfl, ?_⟩) hHeld ?_
  rotate_left
  · intro W hSw
    (try dsimp only at hSw)
    go_simp
    (try with_reducible rfl)
  (try simp only [Act.put, List.setIfInBounds_toArray, List.set_cons_zero, List.set_cons_succ])
  refine wpAnyH_take (i := 9) (oi := { dst := some 15, op := Go.Op.load 3 (Go.Operand.tmp 14), type := 3, pos := "proxy.go:63", after := #[{ on := 8, ground := Go.Ground.data }, { on := 7, ground := Go.Ground.guard }], guard := some (7, false) }) (v := ?_) rfl (by kernel_rfl) (by kernel_rfl) (by kernel_rfl) (fun _ _ _ h => h) (Or.inl ⟨by rfl, ?_⟩) hHeld ?_
  rotate_left
  · intro W hSw
    (try dsimp only at hSw)
    go_simp
    (try with_reducible rfl)
  (try simp only [Act.put, List.setIfInBounds_toArray, List.set_cons_zero, List.set_cons_succ])
  refine wpAnyH_take (i := 10) (oi := { dst := some 16, op := Go.Op.move (Go.Operand.tmp 0), type := 26, pos := "proxy.go:63", after := #[{ on := 7, ground := Go.Ground.guard }], guard := some (7, false) }) (v := ?_) rfl (by kernel_rfl) (by kernel_rfl) (by kernel_rfl) (fun _ _ _ h => h) (Or.inl ⟨by rfl, ?_⟩) hHeld ?_
  rotate_left
  · intro W hSw
    (try dsimp only at hSw)
    go_simp
    (try with_reducible rfl)
  (try simp only [Act.put, List.setIfInBounds_toArray, List.set_cons_zero, List.set_cons_succ])
  refine wpAnyH_take (i := 11) (oi := { dst := some 17, op := Go.Op.nilCheck (Go.Operand.tmp 16), type := 0, pos := "proxy.go:63", after := #[{ on := 10, ground := Go.Ground.data }, { on := 7, ground := Go.Ground.guard }], guard := some (7, false) }) (v := ?_) rfl (by kernel_rfl) (by kernel_rfl) (by kernel_rfl) (fun _ _ _ h => h) (Or.inl ⟨by rfl, ?_⟩) hHeld ?_
  rotate_left
  · intro W hSw
    (try dsimp only at hSw)
    go_simp
    (try with_reducible rfl)
  (try simp only [Act.put, List.setIfInBounds_toArray, List.set_cons_zero, List.set_cons_succ])
  refine wpAnyH_take (i := 12) (oi := { dst := some 18, op := Go.Op.fieldAddr 74 (Go.Operand.tmp 17) 1, type := 0, pos := "proxy.go:63", after := #[{ on := 11, ground := Go.Ground.data }, { on := 7, ground := Go.Ground.guard }], guard := some (7, false) }) (v := ?_) rfl (by kernel_rfl) (by kernel_rfl) (by kernel_rfl) (fun _ _ _ h => h) (Or.inl ⟨by rfl, ?_⟩) hHeld ?_
  rotate_left
  · intro W hSw
    (try dsimp only at hSw)
    go_simp
    (try with_reducible rfl)
  (try simp only [Act.put, List.setIfInBounds_toArray, List.set_cons_zero, List.set_cons_succ])
  refine wpAnyH_take (i := 13) (oi := { dst := some 19, op := Go.Op.load 3 (Go.Operand.tmp 18), type := 3, pos := "proxy.go:63", after := #[{ on := 12, ground := Go.Ground.data }, { on := 7, ground := Go.Ground.guard }], guard := some (7, false) }) (v := ?_) rfl (by kernel_rfl) (by kernel_rfl) (by kernel_rfl) (fun _ _ _ h => h) (Or.inl ⟨by rfl, ?_⟩) hHeld ?_
  rotate_left
  · intro W hSw
    (try dsimp only at hSw)
    go_simp
    (try with_reducible rfl)
  (try simp only [Act.put, List.setIfInBounds_toArray, List.set_cons_zero, List.set_cons_succ])
  refine wpAnyH_take (i := 14) (oi := { dst := some 20, op := Go.Op.binOp Go.BinOp.neq 3 (Go.Operand.tmp 15) (Go.Operand.tmp 19) 3, type := 4, pos := "proxy.go:63", after := #[{ on := 9, ground := Go.Ground.data }, { on := 13, ground := Go.Ground.data }, { on := 7, ground := Go.Ground.guard }], guard := some (7, false) }) (v := ?_) rfl (by kernel_rfl) (by kernel_rfl) (by kernel_rfl) (fun _ _ _ h => h) (Or.inl ⟨by rfl, ?_⟩) hHeld ?_
  rotate_left
  · intro W hSw
    (try dsimp only at hSw)
    go_simp
    (try with_reducible rfl)
  (try simp only [Act.put, List.setIfInBounds_toArray, List.set_cons_zero, List.set_cons_succ])
  refine wpAnyH_take (i := 15) (oi := { dst := some 21, op := Go.Op.pick (Go.Operand.tmp 13) (Go.Operand.const (Go.Value.bool true)) (Go.Operand.tmp 20), type := 4, pos := "proxy.go:63", after := #[{ on := 7, ground := Go.Ground.data }, { on := 14, ground := Go.Ground.data }], guard := none }) (v := ?_) rfl (by kernel_rfl) (by kernel_rfl) (by kernel_rfl) (fun _ _ _ h => h) (Or.inl ⟨by rfl, ?_⟩) hHeld ?_
  rotate_left
  · intro W hSw
    (try dsimp only at hSw)
    go_simp
    (try with_reducible rfl)
  (try simp only [Act.put, List.setIfInBounds_toArray, List.set_cons_zero, List.set_cons_succ])
  refine wpAnyH_done (by kernel_rfl) ?_ _
  clear hHeld
  clear p0 p1 A1 A2 C35 SP
  go_upto_region 3 with fail
  have A4 := hid A3.out.drew
  have r0 := hid (SQ.out _ A4.out)
  refine wp_region_held_drew (S := (fun W => W.cell? ⟨M, 0, none⟩ = some (.int .i64 2) ∧ W.cell? ⟨M, 8, none⟩ = some (.int .i64 mm.q))) (by kernel_rfl) r0.out (fun hHeld => ?_)
  refine wpAnyH_take (i := 0) (oi := { dst := some 24, op := Go.Op.fieldAddr 41 (Go.Operand.tmp 3) 0, type := 0, pos := "proxy.go:67", after := #[], guard := none }) (v := ?_) rfl (by kernel_rfl) (by kernel_rfl) (by kernel_rfl) (fun _ _ _ h => h) (Or.inl ⟨by rfl, ?_⟩) hHeld ?_
  rotate_left
  · intro W hSw
    (try dsimp only at hSw)
    go_simp
    (try with_reducible rfl)
  (try simp only [Act.put, List.setIfInBounds_toArray, List.set_cons_zero, List.set_cons_succ])
  refine wpAnyH_take (i := 1) (oi := { dst := some 25, op := Go.Op.load 3 (Go.Operand.tmp 24), type := 3, pos := "proxy.go:67", after := #[{ on := 0, ground := Go.Ground.data }], guard := none }) (v := ?_) rfl (by kernel_rfl) (by kernel_rfl) (by kernel_rfl) (fun _ _ _ h => h) (Or.inl ⟨by rfl, ?_⟩) hHeld ?_
  rotate_left
  · intro W hSw
    (try dsimp only at hSw)
    go_simp
    (try with_reducible rfl)
  (try simp only [Act.put, List.setIfInBounds_toArray, List.set_cons_zero, List.set_cons_succ])
  refine wpAnyH_take (i := 2) (oi := { dst := some 26, op := Go.Op.binOp Go.BinOp.eql 3 (Go.Operand.tmp 25) (Go.Operand.const (Go.Value.int Go.IntKind.i64 2)) 3, type := 4, pos := "proxy.go:67", after := #[{ on := 1, ground := Go.Ground.data }], guard := none }) (v := ?_) rfl (by kernel_rfl) (by kernel_rfl) (by kernel_rfl) (fun _ _ _ h => h) (Or.inl ⟨by rfl, ?_⟩) hHeld ?_
  rotate_left
  · intro W hSw
    (try dsimp only at hSw)
    go_simp
    (try with_reducible rfl)
  (try simp only [Act.put, List.setIfInBounds_toArray, List.set_cons_zero, List.set_cons_succ])
  refine wpAnyH_take (i := 3) (oi := { dst := some 27, op := Go.Op.move (Go.Operand.tmp 26), type := 4, pos := "proxy.go:67", after := #[{ on := 2, ground := Go.Ground.data }], guard := none }) (v := ?_) rfl (by kernel_rfl) (by kernel_rfl) (by kernel_rfl) (fun _ _ _ h => h) (Or.inl ⟨by rfl, ?_⟩) hHeld ?_
  rotate_left
  · intro W hSw
    (try dsimp only at hSw)
    go_simp
    (try with_reducible rfl)
  (try simp only [Act.put, List.setIfInBounds_toArray, List.set_cons_zero, List.set_cons_succ])
  refine wpAnyH_take (i := 4) (oi := { dst := some 28, op := Go.Op.move (Go.Operand.tmp 0), type := 26, pos := "proxy.go:67", after := #[{ on := 3, ground := Go.Ground.guard }], guard := some (3, true) }) (v := ?_) rfl (by kernel_rfl) (by kernel_rfl) (by kernel_rfl) (fun _ _ _ h => h) (Or.inl ⟨by rfl, ?_⟩) hHeld ?_
  rotate_left
  · intro W hSw
    (try dsimp only at hSw)
    go_simp
    (try with_reducible rfl)
  (try simp only [Act.put, List.setIfInBounds_toArray, List.set_cons_zero, List.set_cons_succ])
  refine wpAnyH_take (i := 5) (oi := { dst := some 29, op := Go.Op.nilCheck (Go.Operand.tmp 28), type := 0, pos := "proxy.go:67", after := #[{ on := 4, ground := Go.Ground.data }, { on := 3, ground := Go.Ground.guard }], guard := some (3, true) }) (v := ?_) rfl (by kernel_rfl) (by kernel_rfl) (by kernel_rfl) (fun _ _ _ h => h) (Or.inl ⟨by rfl, ?_⟩) hHeld ?_
  rotate_left
  · intro W hSw
    (try dsimp only at hSw)
    go_simp
    (try with_reducible rfl)
  (try simp only [Act.put, List.setIfInBounds_toArray, List.set_cons_zero, List.set_cons_succ])
  refine wpAnyH_take (i := 6) (oi := { dst := some 30, op := Go.Op.fieldAddr 74 (Go.Operand.tmp 29) 4, type := 0, pos := "proxy.go:67", after := #[{ on := 5, ground := Go.Ground.data }, { on := 3, ground := Go.Ground.guard }], guard := some (3, true) }) (v := ?_) rfl (by kernel_rfl) (by kernel_rfl) (by kernel_rfl) (fun _ _ _ h => h) (Or.inl ⟨by rfl, ?_⟩) hHeld ?_
  rotate_left
  · intro W hSw
    (try dsimp only at hSw)
    go_simp
    (try with_reducible rfl)
  (try simp only [Act.put, List.setIfInBounds_toArray, List.set_cons_zero, List.set_cons_succ])
  refine wpAnyH_take (i := 7) (oi := { dst := some 31, op := Go.Op.fieldAddr 70 (Go.Operand.tmp 30) 0, type := 0, pos := "proxy.go:67", after := #[{ on := 6, ground := Go.Ground.data }, { on := 3, ground := Go.Ground.guard }], guard := some (3, true) }) (v := ?_) rfl (by kernel_rfl) (by kernel_rfl) (by kernel_rfl) (fun _ _ _ h => h) (Or.inl ⟨by rfl, ?_⟩) hHeld ?_
  rotate_left
  · intro W hSw
    (try dsimp only at hSw)
    go_simp
    (try with_reducible rfl)
  (try simp only [Act.put, List.setIfInBounds_toArray, List.set_cons_zero, List.set_cons_succ])
  refine wpAnyH_take (i := 8) (oi := { dst := some 32, op := Go.Op.fieldAddr 41 (Go.Operand.tmp 3) 8, type := 0, pos := "proxy.go:67", after := #[{ on := 3, ground := Go.Ground.guard }], guard := some (3, true) }) (v := ?_) rfl (by kernel_rfl) (by kernel_rfl) (by kernel_rfl) (fun _ _ _ h => h) (Or.inl ⟨by rfl, ?_⟩) hHeld ?_
  rotate_left
  · intro W hSw
    (try dsimp only at hSw)
    go_simp
    (try with_reducible rfl)
  (try simp only [Act.put, List.setIfInBounds_toArray, List.set_cons_zero, List.set_cons_succ])
  refine wpAnyH_take (i := 9) (oi := { dst := some 33, op := Go.Op.load 3 (Go.Operand.tmp 32), type := 3, pos := "proxy.go:67", after := #[{ on := 8, ground := Go.Ground.data }, { on := 3, ground := Go.Ground.guard }], guard := some (3, true) }) (v := ?_) rfl (by kernel_rfl) (by kernel_rfl) (by kernel_rfl) (fun _ _ _ h => h) (Or.inl ⟨by rfl, ?_⟩) hHeld ?_
  rotate_left
  · intro W hSw
    (try dsimp only at hSw)
    go_simp
    (try with_reducible rfl)
  (try simp only [Act.put, List.setIfInBounds_toArray, List.set_cons_zero, List.set_cons_succ])
  refine wpAnyH_ready (rs := [10]) (by kernel_rfl) (by simp) ?_
  refine AllReadyH.cons (o := { dst := some 34, op := Go.Op.call { callee := Go.Callee.value (Go.Operand.func 36), args := #[Go.Operand.tmp 31, Go.Operand.tmp 33], argTypes := #[67, 3] }, type := 4, pos := "proxy.go:67", after := #[{ on := 7, ground := Go.Ground.data }, { on := 9, ground := Go.Ground.data }, { on := 3, ground := Go.Ground.chain }, { on := 3, ground := Go.Ground.guard }], guard := some (3, true) }) rfl (fun K hK => ?_) AllReadyH.nil
  go_simp
  refine (C36.out _ A4.out).mono ?_; rintro e w4 ⟨rfl, hw4⟩; have A5 : Hid (All (blkC M mm.cells 41 :: blkC G [.bool false, .int .i64 0, .int .i64 0, .int .i64 0, .int .i64 0, .int .i64 0, .slice none 0 0] 48 :: (pxL P x b m n1 n2 ++ cs)) w4) := hid (by rw [hw4]; exact A4.out); have r1 := hid (SQ.out _ A5.out); clear hw4
  refine hK.out _ _ r1.out (fun hHeld => ?_)
  clear hK K
  (try simp only [Act.put, List.setIfInBounds_toArray, List.set_cons_zero, List.set_cons_succ])
  refine wpAnyH_take (i := 11) (oi := { dst := some 35, op := Go.Op.pick (Go.Operand.tmp 27) (Go.Operand.tmp 34) (Go.Operand.const (Go.Value.bool false)), type := 4, pos := "proxy.go:67", after := #[{ on := 3, ground := Go.Ground.data }, { on := 10, ground := Go.Ground.data }], guard := none }) (v := ?_) rfl (by kernel_rfl) (by kernel_rfl) (by kernel_rfl) (fun _ _ _ h => h) (Or.inl ⟨by rfl, ?_⟩) hHeld ?_
  rotate_left
  · intro W hSw
    (try dsimp only at hSw)
    go_simp
    (try with_reducible rfl)
  (try simp only [Act.put, List.setIfInBounds_toArray, List.set_cons_zero, List.set_cons_succ])
  refine wpAnyH_take (i := 12) (oi := { dst := some 23, op := Go.Op.assign (Go.Operand.tmp 35), type := 4, pos := "proxy.go:67", after := #[{ on := 11, ground := Go.Ground.data }, { on := 10, ground := Go.Ground.chain }], guard := none }) (v := ?_) rfl (by kernel_rfl) (by kernel_rfl) (by kernel_rfl) (fun _ _ _ h => h) (Or.inl ⟨by rfl, ?_⟩) hHeld ?_
  rotate_left
  · intro W hSw
    (try dsimp only at hSw)
    go_simp
    (try with_reducible rfl)
  (try simp only [Act.put, List.setIfInBounds_toArray, List.set_cons_zero, List.set_cons_succ])
  refine wpAnyH_done (by kernel_rfl) ?_ _
  clear hHeld
  clear r0 r1 A3 A4 C36 SQ
  have H5 := hid A5.out.1.2.1
  go_upto_region 4 with fail
  go_wp2_with (refine wpList_load_row rfl 41 _ rfl M rfl 41 mm.cells.toArray (0, 0) _ H5.out Tryd.underlying41 rfl J41.out ?_)
  refine (C37.out _ A5.out).mono ?_
  rintro e w5 ⟨a1, k1, p1, rfl, hw5⟩
  have A6 := hid hw5.swap
  have hg6 := hid hw5.tail.1.2.1
  have A7 := hid (A6.out.setRow (vs' := ansA mm (.slice a1 k1 p1)))
  clear hw5 C37 A5 H5
  go_wp2_with (refine wpList_store_row rfl 48 _ _ rfl G (ansA mm (.slice a1 k1 p1)).toArray rfl rfl 48 _ hg6.out (I48.out _) (Z48.out _) (O48.out a1 k1 p1) ?_)
  refine bodyPost_ret (v := .tuple #[.agg (ansA mm (.slice a1 k1 p1)).toArray, .bool true]) (res15 (b := G) rfl rfl A7.out.1.2.1 (I48.out _)) rfl ?_
  exact ⟨a1, k1, p1, rfl, A7.out.tail.tail⟩
end Go.Proofs.YteloaggebkbeeaaDoor

namespace Go.Proofs.YteloaggebkbeeaaDoor
open Go.RowKit
set_option linter.unusedVariables false

/-- The answer that a Told brings. -/
def ansT (m : Ms) (v : Value) : List Value := [.bool true, .int .i64 m.q, .int .i64 m.n, .int .i64 m.f, .int .i64 m.rc, .int .i64 m.rn, v]
def Px.told (x : Px) (m : Ms) : Px := { x.endq with seen := max x.seen m.n }
set_option maxHeartbeats 3200000 in
set_option maxRecDepth 1000000 in
theorem takeTold {P : Nat} {x : Px} {b m n1 n2 : Int} {cs : List Comp} {w w0 : World} (h : All (pxL P x b m n1 n2 ++ cs) w) (hin : inC w0 ∈ cs) (mm : Ms) (hz : CopR w0 mm) : Calls Tryd.prog 38 #[.pointer (some ⟨P, 0, none⟩), .agg mm.cells.toArray] w fun e w' => ∃ a1 k1 p1, e = .returned (.agg (ansT mm (.slice a1 k1 p1)).toArray) ∧ All (pxL P (x.told mm) b m n1 b ++ cs) w' := by
  obtain ⟨M, hM⟩ : ∃ M, Hid (M = w.heap.size) := ⟨_, hid rfl⟩
  obtain ⟨G, hG⟩ : ∃ G, Hid (G = w.heap.size + 1) := ⟨_, hid rfl⟩
  have A1 : Hid (All (blkC M mm.cells 41 :: blkC G [.bool false, .int .i64 0, .int .i64 0, .int .i64 0, .int .i64 0, .int .i64 0, .slice none 0 0] 48 :: (pxL P x b m n1 n2 ++ cs)) ((w.alloc (.cells mm.cells.toArray 41)).alloc (.cells #[.bool false, .int .i64 0, .int .i64 0, .int .i64 0, .int .i64 0, .int .i64 0, .slice none 0 0] 48))) := hid (by
    have := ((h.addBlk mm.cells 41).addBlk [.bool false, .int .i64 0, .int .i64 0, .int .i64 0, .int .i64 0, .int .i64 0, .slice none 0 0] 48).swap
    simp only [World.size_alloc] at this
    rw [hM.out, hG.out]
    exact this)
  have C62 : Hid (∀ W, All (blkC M mm.cells 41 :: blkC G [.bool false, .int .i64 0, .int .i64 0, .int .i64 0, .int .i64 0, .int .i64 0, .slice none 0 0] 48 :: (pxL P x b m n1 n2 ++ cs)) W → Calls Tryd.prog 62 #[.pointer (some ⟨P, 13, none⟩)] W fun e w' => e = .returned (.tuple #[]) ∧ All (blkC M mm.cells 41 :: blkC G [.bool false, .int .i64 0, .int .i64 0, .int .i64 0, .int .i64 0, .int .i64 0, .slice none 0 0] 48 :: (pxL P x.endq b m n1 b ++ cs)) w') := hid (fun W hW => by
    have h1 := hW.perm (show List.Perm _ (pxL P x b m n1 n2 ++ (blkC M mm.cells 41 :: blkC G [.bool false, .int .i64 0, .int .i64 0, .int .i64 0, .int .i64 0, .int .i64 0, .slice none 0 0] 48 :: cs)) from ((List.Perm.cons _ (List.perm_middle (l₁ := pxL P x b m n1 n2)).symm).trans (List.perm_middle (l₁ := pxL P x b m n1 n2)).symm))
    refine (qend62 h1).mono ?_
    rintro e w' ⟨a1, a2⟩
    exact ⟨a1, a2.perm (((List.Perm.cons _ (List.perm_middle (l₁ := pxL P x.endq b m n1 b)).symm).trans (List.perm_middle (l₁ := pxL P x.endq b m n1 b)).symm)).symm⟩)
  have C61 : Hid (∀ W ds, All (ds ++ (pxL P (x.told mm) b m n1 b ++ cs)) W → Calls Tryd.prog 61 #[.agg #[.int .i64 mm.rc, .int .i64 mm.rn, .slice mm.ra mm.rl mm.rp]] W fun e w' => ∃ a1 k1 p1, e = .returned (.agg #[.int .i64 mm.rc, .int .i64 mm.rn, .slice a1 k1 p1]) ∧ Below W.heap.size W w') := hid (fun W ds h => hz W (h.into (by simp [hin])))
  have HM : Hid (∀ W cs', All (blkC M mm.cells 41 :: cs') W → W.cell? ⟨M, 4, none⟩ = some (.int .i64 mm.n)) := hid (fun W cs' hW => by rw [cell_at hW.1.2.1]; rfl)
  have SH3 : Hid (∀ W cs', All (blkC M mm.cells 41 :: cs') W → (fun W => W.cell? ⟨M, 8, none⟩ = some (.int .i64 mm.q) ∧ W.cell? ⟨M, 4, none⟩ = some (.int .i64 mm.n) ∧ W.cell? ⟨M, 1, none⟩ = some (.int .i64 mm.f) ∧ W.cell? ⟨M, 15, none⟩ = some (.int .i64 mm.rc) ∧ W.cell? ⟨M, 16, none⟩ = some (.int .i64 mm.rn) ∧ W.cell? ⟨M, 17, none⟩ = some (.slice mm.ra mm.rl mm.rp)) W) := hid (fun W cs' hW => ⟨by rw [cell_at hW.1.2.1]; rfl, by rw [cell_at hW.1.2.1]; rfl, by rw [cell_at hW.1.2.1]; rfl, by rw [cell_at hW.1.2.1]; rfl, by rw [cell_at hW.1.2.1]; rfl, by rw [cell_at hW.1.2.1]; rfl⟩)
  have I48 : Hid (∀ v, (Tryd.prog.info? 48).map (·.size) = some (ansT mm v).toArray.size) := hid (fun v => info48)
  have O48 : Hid (∀ a1 k1 p1, (ansT mm (.slice a1 k1 p1)).toArray.all (·.oneCell') = true) := hid (fun a1 k1 p1 => by simp [ansT, Value.oneCell'])
  have Z48 : Hid (∀ v, ([.bool false, .int .i64 0, .int .i64 0, .int .i64 0, .int .i64 0, .int .i64 0, .slice none 0 0] : List Value).toArray.size = (ansT mm v).toArray.size) := hid (fun v => rfl)
  obtain ⟨PM, hPM⟩ : ∃ PM, Hid (PM = mm.cells.toArray) := ⟨_, hid rfl⟩
  rw [← hPM.out] at A1 ⊢
  clear h hz hin
  go_enter Tryd.func38, Tryd.ntmps38
  go_upto_region 1 with fail
  simp only [← hM.out]
  have eG : M + 1 = G := by rw [hM.out, hG.out]
  simp only [eG]
  clear eG
  generalize (w.alloc (.cells PM 41)).alloc (.cells #[.bool false, .int .i64 0, .int .i64 0, .int .i64 0, .int .i64 0, .int .i64 0, .slice none 0 0] 48) = w1 at A1 ⊢
  go_upto_region 2 with (go_at_call 62; refine (C62.out _ A1.out).mono ?_; rintro e w2 ⟨rfl, hw2⟩; have A2 := hid hw2; clear hw2)
  clear C62 A1
  have A3 := hid A2.out.drew
  have c3 : w2.drew.cell? ⟨P, 3, none⟩ = some (.int .i64 x.seen) := by rw [cell_at A3.out.tail.tail.px]; rfl
  have g3 : w2.drew.frozen? ⟨P, 3, none⟩ = false := free_at A3.out.tail.tail.px 3
  have B1 := (A3.out.perm (show List.Perm _ (pxL P x.endq b m n1 b ++ (blkC M mm.cells 41 :: blkC G [.bool false, .int .i64 0, .int .i64 0, .int .i64 0, .int .i64 0, .int .i64 0, .slice none 0 0] 48 :: cs)) from ((List.Perm.cons _ (List.perm_middle (l₁ := pxL P x.endq b m n1 b)).symm).trans (List.perm_middle (l₁ := pxL P x.endq b m n1 b)).symm))).setBlk 3 (.int .i64 (max x.seen mm.n))
  have B3 : Hid (All (blkC M mm.cells 41 :: blkC G [.bool false, .int .i64 0, .int .i64 0, .int .i64 0, .int .i64 0, .int .i64 0, .slice none 0 0] 48 :: (pxL P (x.told mm) b m n1 b ++ cs)) (w2.drew.setCell ⟨P, 3, none⟩ (.int .i64 (max x.seen mm.n)))) := hid (All.perm (((List.Perm.cons _ (List.perm_middle (l₁ := pxL P (x.told mm) b m n1 b)).symm).trans (List.perm_middle (l₁ := pxL P (x.told mm) b m n1 b)).symm)).symm B1)
  clear B1
  have m4 := HM.out _ _ A3.out
  have k3 : w2.cell? ⟨P, 3, none⟩ = some (.int .i64 x.seen) := c3
  have j3 : w2.frozen? ⟨P, 3, none⟩ = false := g3
  have u4 : w2.cell? ⟨M, 4, none⟩ = some (.int .i64 mm.n) := m4
  go_cut [] (fun wx => Hid (All (blkC M mm.cells 41 :: blkC G [.bool false, .int .i64 0, .int .i64 0, .int .i64 0, .int .i64 0, .int .i64 0, .slice none 0 0] 48 :: (pxL P (x.told mm) b m n1 b ++ cs)) wx))
  case first =>
    go_region
    all_goals
      go_wp2_with fail
      go_meet
      exact B3
  case rest =>
  have A4 := hcut
  clear c3 g3 B3 A3 A2 m4 hcut k3 j3 u4
  go_upto_region 3 with fail
  have A5 := hid A4.out.drew
  have r0 := hid (SH3.out _ _ A5.out)
  refine wp_region_held_drew (S := (fun W => W.cell? ⟨M, 8, none⟩ = some (.int .i64 mm.q) ∧ W.cell? ⟨M, 4, none⟩ = some (.int .i64 mm.n) ∧ W.cell? ⟨M, 1, none⟩ = some (.int .i64 mm.f) ∧ W.cell? ⟨M, 15, none⟩ = some (.int .i64 mm.rc) ∧ W.cell? ⟨M, 16, none⟩ = some (.int .i64 mm.rn) ∧ W.cell? ⟨M, 17, none⟩ = some (.slice mm.ra mm.rl mm.rp))) (by kernel_rfl) r0.out (fun hHeld => ?_)
  refine wpAnyH_take (i := 0) (oi := { dst := Option.some 19, op := Go.Op.fieldAddr 41 (Go.Operand.tmp 3) 8, type := 0, pos := "proxy.go:86", after := #[], guard := Option.none }) (v := ?_) rfl (by kernel_rfl) (by kernel_rfl) (by kernel_rfl) (fun _ _ _ h => h) (Or.inl ⟨by rfl, ?_⟩) hHeld ?_
  rotate_left
  · intro W hSw
    (try dsimp only at hSw)
    go_simp
    (try with_reducible rfl)
  (try simp only [Act.put, List.setIfInBounds_toArray, List.set_cons_zero, List.set_cons_succ])
  refine wpAnyH_take (i := 1) (oi := { dst := Option.some 20, op := Go.Op.load 3 (Go.Operand.tmp 19), type := 3, pos := "proxy.go:86", after := #[{ on := 0, ground := Go.Ground.data }], guard := Option.none }) (v := ?_) rfl (by kernel_rfl) (by kernel_rfl) (by kernel_rfl) (fun _ _ _ h => h) (Or.inl ⟨by rfl, ?_⟩) hHeld ?_
  rotate_left
  · intro W hSw
    (try dsimp only at hSw)
    go_simp
    (try with_reducible rfl)
  (try simp only [Act.put, List.setIfInBounds_toArray, List.set_cons_zero, List.set_cons_succ])
  refine wpAnyH_take (i := 2) (oi := { dst := Option.some 21, op := Go.Op.fieldAddr 41 (Go.Operand.tmp 3) 4, type := 0, pos := "proxy.go:86", after := #[], guard := Option.none }) (v := ?_) rfl (by kernel_rfl) (by kernel_rfl) (by kernel_rfl) (fun _ _ _ h => h) (Or.inl ⟨by rfl, ?_⟩) hHeld ?_
  rotate_left
  · intro W hSw
    (try dsimp only at hSw)
    go_simp
    (try with_reducible rfl)
  (try simp only [Act.put, List.setIfInBounds_toArray, List.set_cons_zero, List.set_cons_succ])
  refine wpAnyH_take (i := 3) (oi := { dst := Option.some 22, op := Go.Op.load 3 (Go.Operand.tmp 21), type := 3, pos := "proxy.go:86", after := #[{ on := 2, ground := Go.Ground.data }], guard := Option.none }) (v := ?_) rfl (by kernel_rfl) (by kernel_rfl) (by kernel_rfl) (fun _ _ _ h => h) (Or.inl ⟨by rfl, ?_⟩) hHeld ?_
  rotate_left
  · intro W hSw
    (try dsimp only at hSw)
    go_simp
    (try with_reducible rfl)
  (try simp only [Act.put, List.setIfInBounds_toArray, List.set_cons_zero, List.set_cons_succ])
  refine wpAnyH_take (i := 4) (oi := { dst := Option.some 23, op := Go.Op.fieldAddr 41 (Go.Operand.tmp 3) 1, type := 0, pos := "proxy.go:86", after := #[], guard := Option.none }) (v := ?_) rfl (by kernel_rfl) (by kernel_rfl) (by kernel_rfl) (fun _ _ _ h => h) (Or.inl ⟨by rfl, ?_⟩) hHeld ?_
  rotate_left
  · intro W hSw
    (try dsimp only at hSw)
    go_simp
    (try with_reducible rfl)
  (try simp only [Act.put, List.setIfInBounds_toArray, List.set_cons_zero, List.set_cons_succ])
  refine wpAnyH_take (i := 5) (oi := { dst := Option.some 24, op := Go.Op.load 3 (Go.Operand.tmp 23), type := 3, pos := "proxy.go:86", after := #[{ on := 4, ground := Go.Ground.data }], guard := Option.none }) (v := ?_) rfl (by kernel_rfl) (by kernel_rfl) (by kernel_rfl) (fun _ _ _ h => h) (Or.inl ⟨by rfl, ?_⟩) hHeld ?_
  rotate_left
  · intro W hSw
    (try dsimp only at hSw)
    go_simp
    (try with_reducible rfl)
  (try simp only [Act.put, List.setIfInBounds_toArray, List.set_cons_zero, List.set_cons_succ])
  refine wpAnyH_take (i := 6) (oi := { dst := Option.some 25, op := Go.Op.fieldAddr 41 (Go.Operand.tmp 3) 11, type := 0, pos := "proxy.go:86", after := #[], guard := Option.none }) (v := ?_) rfl (by kernel_rfl) (by kernel_rfl) (by kernel_rfl) (fun _ _ _ h => h) (Or.inl ⟨by rfl, ?_⟩) hHeld ?_
  rotate_left
  · intro W hSw
    (try dsimp only at hSw)
    go_simp
    (try with_reducible rfl)
  (try simp only [Act.put, List.setIfInBounds_toArray, List.set_cons_zero, List.set_cons_succ])
  refine wpAnyH_take (i := 7) (oi := { dst := Option.some 26, op := Go.Op.load 35 (Go.Operand.tmp 25), type := 35, pos := "proxy.go:86", after := #[{ on := 6, ground := Go.Ground.data }], guard := Option.none }) (v := ?_) rfl (by kernel_rfl) (by kernel_rfl) (by kernel_rfl) (fun _ _ _ h => h) (Or.inl ⟨by rfl, ?_⟩) hHeld ?_
  rotate_left
  · intro W hSw
    (try dsimp only at hSw)
    go_simp
    (try with_reducible rfl)
  (try simp only [Act.put, List.setIfInBounds_toArray, List.set_cons_zero, List.set_cons_succ])
  refine wpAnyH_ready (rs := [8]) (by kernel_rfl) (by simp) ?_
  refine AllReadyH.cons (o := { dst := Option.some 27, op := Go.Op.call { callee := Go.Callee.value (Go.Operand.func 61), args := #[Go.Operand.tmp 26], argTypes := #[35] }, type := 35, pos := "proxy.go:86", after := #[{ on := 7, ground := Go.Ground.data }], guard := Option.none }) rfl (fun K hK => ?_) AllReadyH.nil
  go_simp
  refine (C61.out _ [_, _] A5.out).mono ?_; rintro e w6 ⟨a1, k1, p1, rfl, BB⟩; have A6 := hid (A5.out.later BB); have r1 := hid (SH3.out _ _ A6.out); clear BB
  refine hK.out _ _ r1.out (fun hHeld => ?_)
  clear hK K
  (try simp only [Act.put, List.setIfInBounds_toArray, List.set_cons_zero, List.set_cons_succ])
  refine wpAnyH_take (i := 9) (oi := { dst := Option.some 28, op := Go.Op.build 48 #[(0, Go.Operand.const (Go.Value.bool Bool.true)), (1, Go.Operand.tmp 20), (2, Go.Operand.tmp 22), (3, Go.Operand.tmp 24), (4, Go.Operand.tmp 27)], type := 48, pos := "proxy.go:86", after := #[{ on := 1, ground := Go.Ground.data }, { on := 3, ground := Go.Ground.data }, { on := 5, ground := Go.Ground.data }, { on := 8, ground := Go.Ground.data }], guard := Option.none }) (v := .agg (ansT mm (.slice a1 k1 p1)).toArray) rfl (by kernel_rfl) (by kernel_rfl) (by kernel_rfl) (fun _ _ _ h => h) (yieldsIf_build (by rfl) 48 _ rfl (ansT mm (.slice a1 k1 p1)).toArray (by kernel_rfl)) hHeld ?_
  (try simp only [Act.put, List.setIfInBounds_toArray, List.set_cons_zero, List.set_cons_succ])
  have A7 := hid (A6.out.swap.setRow (vs' := ansT mm (.slice a1 k1 p1)))
  have r2 := hid (SH3.out _ _ A7.out.swap)
  have hg2 := hid A6.out.tail.1.2.1
  refine wpAnyH_ready (rs := [10]) (by kernel_rfl) (by simp) ?_
  refine AllReadyH.cons (o := { dst := Option.none, op := Go.Op.store 48 (Go.Operand.tmp 4) (Go.Operand.tmp 28), type := 0, pos := "proxy.go:86", after := #[{ on := 9, ground := Go.Ground.data }, { on := 8, ground := Go.Ground.chain }, { on := 0, ground := Go.Ground.phase }, { on := 1, ground := Go.Ground.phase }, { on := 2, ground := Go.Ground.phase }, { on := 3, ground := Go.Ground.phase }, { on := 4, ground := Go.Ground.phase }, { on := 5, ground := Go.Ground.phase }, { on := 6, ground := Go.Ground.phase }, { on := 7, ground := Go.Ground.phase }, { on := 8, ground := Go.Ground.phase }, { on := 9, ground := Go.Ground.phase }], guard := Option.none }) rfl (fun K hK => ?_) AllReadyH.nil
  rw [if_pos (by rfl)]
  refine wp_store_row 48 _ _ rfl G (ansT mm (.slice a1 k1 p1)).toArray rfl rfl 48 _ hg2.out (I48.out _) (Z48.out _) (O48.out a1 k1 p1) ?_
  refine hK.out _ _ r2.out (fun hHeld => ?_)
  clear hK K
  (try simp only [Act.put])
  refine wpAnyH_done (by kernel_rfl) ?_ _
  clear hHeld
  clear r0 r1 r2 hg2
  go_wp2
  refine bodyPost_ret (v := .agg (ansT mm (.slice a1 k1 p1)).toArray) (results_cell_row (fn := Tryd.f38) rfl _ _ G 48 (ansT mm (.slice a1 k1 p1)).toArray (0, 0) _ rfl A7.out.1.2.1 Tryd.underlying48 rfl (I48.out _)) rfl ?_
  exact ⟨a1, k1, p1, rfl, A7.out.tail.tail⟩
end Go.Proofs.YteloaggebkbeeaaDoor

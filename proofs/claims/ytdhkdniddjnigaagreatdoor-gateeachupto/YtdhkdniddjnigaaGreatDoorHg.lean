import Derived.Test.YtdhkdniddjnigaaGreatDoorHf
namespace Go.Proofs.YtdhkdniddjnigaaGreatDoor
open Go.RowKit
set_option linter.unusedVariables false

theorem blk_rng {W : World} {g : Nat} {vs : List Value} {t : TypeId} (h : (blkC g vs t).holds W) : W.rangeAt g 0 vs := fun j u hu => by rw [cell_at h]; simpa using hu
theorem Gt.dropL {G P : Nat} {s : Gs} {tl : List UInt8} {b m : Int} {c : Comp} {L cs : List Comp} {w : World} (h : Gt G P s tl b m (c :: (L ++ cs)) w) : Gt G P s tl b m (c :: cs) w := by
  obtain ⟨x, y, z, h⟩ := h
  exact ⟨x, y, z, ((h.perm (List.Perm.append_left _ List.perm_middle.symm)).perm (List.perm_append_comm_assoc _ L _)).app⟩
theorem Gt.addBlk {G P : Nat} {s : Gs} {tl : List UInt8} {b m : Int} {cs : List Comp} {w : World} (h : Gt G P s tl b m cs w) (vs : List Value) (t : TypeId) : Gt G P s tl b m (blkC w.heap.size vs t :: cs) (w.alloc (.cells vs.toArray t)) := by
  obtain ⟨x, y, z, h⟩ := h
  exact ⟨x, y, z, (h.addBlk vs t).perm List.perm_middle.symm⟩
theorem Gt.drew {G P : Nat} {s : Gs} {tl : List UInt8} {b m : Int} {cs : List Comp} {w : World} (h : Gt G P s tl b m cs w) : Gt G P s tl b m cs w.drew := by
  obtain ⟨x, y, z, h⟩ := h
  exact ⟨x, y, z, h.drew⟩
theorem Gt.setRow {G P g : Nat} {s : Gs} {tl : List UInt8} {b m : Int} {vs vs' : List Value} {t : TypeId} {cs : List Comp} {w : World} (h : Gt G P s tl b m (blkC g vs t :: cs) w) : Gt G P s tl b m (blkC g vs' t :: cs) (w.setRow g vs'.toArray) := by
  obtain ⟨x, y, z, h⟩ := h
  exact ⟨x, y, z, ((h.perm List.perm_middle).setRow (vs' := vs')).perm List.perm_middle.symm⟩
set_option maxHeartbeats 3200000 in
set_option maxRecDepth 1000000 in
theorem step_gt {G P : Nat} {s s' : Gs} {tl : List UInt8} {b m : Int} {cs : List Comp} {w : World} {nd : Int} (rd : Bool) (mm : Ms) (h : Gt G P s tl b m cs w) (E : Evs cs) (hD : ∀ W, All cs W → Cd W)
    (hP : ∀ W ds, Gt G P s tl b m (ds ++ cs) W → Calls Tryz.prog 36 #[.pointer (some ⟨P, 0, none⟩), .agg mm.cells.toArray] W fun e w' => e = .returned (.tuple #[.agg ([.bool rd, .int .i64 mm.q, .int .i64 mm.n, .int .i64 nd, .int .i64 0, .int .i64 0, .slice none 0 0] : List Value).toArray, .bool true]) ∧ Gt G P s' tl b m (ds ++ cs) w')
    (I : PxI s'.x m s'.n1 s'.n2) (hno : ∀ q ∈ s'.ws, 0 ≤ q.no ∧ q.no ≤ 4611686018427387904) (hn : s'.ws.length ≤ 16) (hu : 0 ≤ s'.uw ∧ s'.uw ≤ 4611686018427387904) (n0 : 0 ≤ mm.n ∧ mm.n ≤ 4611686018427387904) (d0 : 0 ≤ nd ∧ nd ≤ 4611686018427387904) (ht : tl.length ≤ 40000000000000) :
    Calls Tryz.prog 20 #[.pointer (some ⟨G, 0, none⟩), .agg mm.cells.toArray] w fun e w' => ∃ v, e = .returned v ∧ Gt G P (ansM m s' rd nd mm.n).s (tl ++ (ansM m s' rd nd mm.n).tl) b m (msC v (ansM m s' rd nd mm.n).ms :: cs) w' := by
  obtain ⟨M, hM⟩ : ∃ M, Hid (M = w.heap.size) := ⟨_, hid rfl⟩
  have G1 := hid (h.addBlk mm.cells 51)
  rw [← hM.out] at G1
  obtain ⟨AC, hAC⟩ : ∃ A : List Value, Hid (A = [.bool rd, .int .i64 mm.q, .int .i64 mm.n, .int .i64 nd, .int .i64 0, .int .i64 0, .slice none 0 0]) := ⟨_, hid rfl⟩
  rw [← hAC.out] at hP
  have HP := hid hP
  have S0 : Hid (∀ W ds, Gt G P s tl b m (ds ++ (blkC M mm.cells 51 :: cs)) W → W.cell? ⟨G, 3, none⟩ = some (ptr P) ∧ W.rangeAt M 0 mm.cells) := hid (fun W ds k => by
    have k2 : (blkC M mm.cells 51).holds W := (k.rest.mem (c := blkC M mm.cells 51) (by simp)).2.1
    obtain ⟨x, y, z, k⟩ := k
    exact ⟨Gt.cell k 3, blk_rng k2⟩)
  have S2 : Hid (∀ W ds, Gt G P s' tl b m (ds ++ (blkC M mm.cells 51 :: cs)) W → W.cell? ⟨G, 3, none⟩ = some (ptr P) ∧ W.rangeAt M 0 mm.cells) := hid (fun W ds k => by
    have k2 : (blkC M mm.cells 51).holds W := (k.rest.mem (c := blkC M mm.cells 51) (by simp)).2.1
    obtain ⟨x, y, z, k⟩ := k
    exact ⟨Gt.cell k 3, blk_rng k2⟩)
  have I51 := hid (show (Tryz.prog.info? 51).map (·.size) = some mm.cells.length by show (Tryz.prog.info? 51).map (·.size) = some 23; kernel_rfl)
  have FIN : Hid (∀ W ds D, Gt G P s' tl b m (ds ++ (blkC D AC 97 :: blkC M mm.cells 51 :: cs)) W → W.rangeAt D 0 AC ∧ Calls Tryz.prog 37 #[.pointer (some ⟨G, 3, none⟩), .agg AC.toArray] W fun e w' => ∃ v, e = .returned v ∧ w'.rangeAt D 0 AC ∧ Gt G P (ansM m s' rd nd mm.n).s (tl ++ (ansM m s' rd nd mm.n).tl) b m (msC v (ansM m s' rd nd mm.n).ms :: cs) w') := hid (fun W ds D k => by
    have k2 : (blkC D AC 97).holds W := (k.rest.mem (c := blkC D AC 97) (by simp)).2.1
    refine ⟨blk_rng k2, ?_⟩
    have k3 : Gt G P s' tl b m (ds ++ (blkC D AC 97 :: blkC M mm.cells 51 :: cs)) W := k
    have e : AC.toArray = #[.bool rd, .int .i64 mm.q, .int .i64 mm.n, .int .i64 nd, .int .i64 0, .int .i64 0, .slice none 0 0] := by rw [hAC.out]
    rw [e]
    refine (answer_gt (q := mm.q) rd k3 (((E.cons _).cons _).app ds) (fun W k => hD W k.app.tail.tail) I hno hn hu n0 d0 ht).mono ?_
    rintro e w' ⟨v, rfl, hG⟩
    refine ⟨v, rfl, blk_rng (hG.rest.mem (c := blkC D AC 97) (by simp)).2.1, ?_⟩
    have h1 := Gt.dropL hG
    exact h1.drop2.drop2)
  clear h hP E hD I hno hn hu n0 d0 ht
  have I97 := hid (show (Tryz.prog.info? 97).map (·.size) = some AC.length by rw [hAC.out]; show (Tryz.prog.info? 97).map (·.size) = some 7; kernel_rfl)
  have J97 := hid (show (Tryz.prog.info? 97).map (·.size) = some AC.toArray.size by rw [hAC.out]; show (Tryz.prog.info? 97).map (·.size) = some 7; kernel_rfl)
  have O97 := hid (show AC.toArray.all (·.oneCell') = true by rw [hAC.out]; simp [Value.oneCell'])
  go_enter Tryz.func20, Tryz.ntmps20
  go_upto_region 1 with fail
  simp only [← hM.out]
  generalize w.alloc (.cells mm.cells.toArray 51) = w1 at G1 ⊢
  have G2 := hid G1.out.drew
  refine wp_region_held_drew (S := (fun W => W.cell? ⟨G, 3, none⟩ = some (ptr P) ∧ W.rangeAt M 0 mm.cells)) (by kernel_rfl) (S0.out _ [] G2.out) (fun hHeld => ?_)
  refine wpAnyH_take (i := 0) (oi := { dst := some 8, op := Go.Op.move (Go.Operand.tmp 0), type := 27, pos := "gate.go:43", after := #[], guard := none }) (v := ?_) rfl (by kernel_rfl) (by kernel_rfl) (by kernel_rfl) (fun _ _ _ h => h) (Or.inl ⟨by rfl, ?_⟩) hHeld ?_
  rotate_left
  · intro W hSw
    (try dsimp only at hSw)
    go_simp
    (try with_reducible rfl)
  (try simp only [Act.put, List.setIfInBounds_toArray, List.set_cons_zero, List.set_cons_succ])
  refine wpAnyH_take (i := 1) (oi := { dst := some 9, op := Go.Op.nilCheck (Go.Operand.tmp 8), type := 0, pos := "gate.go:43", after := #[{ on := 0, ground := Go.Ground.data }], guard := none }) (v := ?_) rfl (by kernel_rfl) (by kernel_rfl) (by kernel_rfl) (fun _ _ _ h => h) (Or.inl ⟨by rfl, ?_⟩) hHeld ?_
  rotate_left
  · intro W hSw
    (try dsimp only at hSw)
    go_simp
    (try with_reducible rfl)
  (try simp only [Act.put, List.setIfInBounds_toArray, List.set_cons_zero, List.set_cons_succ])
  refine wpAnyH_take (i := 2) (oi := { dst := some 10, op := Go.Op.fieldAddr 79 (Go.Operand.tmp 9) 1, type := 0, pos := "gate.go:43", after := #[{ on := 1, ground := Go.Ground.data }], guard := none }) (v := ?_) rfl (by kernel_rfl) (by kernel_rfl) (by kernel_rfl) (fun _ _ _ h => h) (Or.inl ⟨by rfl, ?_⟩) hHeld ?_
  rotate_left
  · intro W hSw
    (try dsimp only at hSw)
    go_simp
    (try with_reducible rfl)
  (try simp only [Act.put, List.setIfInBounds_toArray, List.set_cons_zero, List.set_cons_succ])
  refine wpAnyH_take (i := 3) (oi := { dst := some 11, op := Go.Op.fieldAddr 77 (Go.Operand.tmp 10) 0, type := 0, pos := "gate.go:43", after := #[{ on := 2, ground := Go.Ground.data }], guard := none }) (v := ?_) rfl (by kernel_rfl) (by kernel_rfl) (by kernel_rfl) (fun _ _ _ h => h) (Or.inl ⟨by rfl, ?_⟩) hHeld ?_
  rotate_left
  · intro W hSw
    (try dsimp only at hSw)
    go_simp
    (try with_reducible rfl)
  (try simp only [Act.put, List.setIfInBounds_toArray, List.set_cons_zero, List.set_cons_succ])
  refine wpAnyH_take (i := 4) (oi := { dst := some 12, op := Go.Op.load 70 (Go.Operand.tmp 11), type := 70, pos := "gate.go:43", after := #[{ on := 3, ground := Go.Ground.data }], guard := none }) (v := ?_) rfl (by kernel_rfl) (by kernel_rfl) (by kernel_rfl) (fun _ _ _ h => h) (Or.inl ⟨by rfl, ?_⟩) hHeld ?_
  rotate_left
  · intro W hSw
    (try dsimp only at hSw)
    go_simp
    (try with_reducible rfl)
  (try simp only [Act.put, List.setIfInBounds_toArray, List.set_cons_zero, List.set_cons_succ])
  refine wpAnyH_take (i := 5) (oi := { dst := some 13, op := Go.Op.load 51 (Go.Operand.tmp 3), type := 51, pos := "gate.go:43", after := #[], guard := none }) (v := .agg mm.cells.toArray) rfl (by kernel_rfl) (by kernel_rfl) (by kernel_rfl) (fun _ _ _ h => h) (yieldsIf_load_mid (by rfl) 51 (.tmp 3) rfl M 0 rfl mm.cells _ (fun W hW => hW.2) Tryz.underlying51 rfl I51.out) hHeld ?_
  (try simp only [Act.put, List.setIfInBounds_toArray, List.set_cons_zero, List.set_cons_succ])
  refine wpAnyH_ready (rs := [6, 10]) (by kernel_rfl) (by simp) ?_
  refine AllReadyH.cons (o := { dst := some 14, op := Go.Op.call { callee := Go.Callee.value (Go.Operand.func 36), args := #[Go.Operand.tmp 12, Go.Operand.tmp 13], argTypes := #[70, 51] }, type := 98, pos := "gate.go:43", after := #[{ on := 4, ground := Go.Ground.data }, { on := 5, ground := Go.Ground.data }], guard := none }) rfl (fun K hK => ?_) (AllReadyH.cons (o := { dst := some 5, op := Go.Op.alloc 97, type := 0, pos := "gate.go:43", after := #[], guard := none }) rfl (fun K hK => ?_) AllReadyH.nil)
  · go_simp
    refine (HP.out _ [blkC M mm.cells 51] G2.out).mono ?_
    rintro e w3 ⟨rfl, hG3⟩
    have G3 := hid hG3
    refine hK.out _ _ (S2.out _ [] G3.out) (fun hHeld => ?_)
    clear hK K hG3
    (try simp only [Act.put, List.setIfInBounds_toArray, List.set_cons_zero, List.set_cons_succ])
    refine wpAnyH_take (i := 7) (oi := { dst := some 7, op := Go.Op.move (Go.Operand.tmp 14), type := 98, pos := "gate.go:43", after := #[{ on := 6, ground := Go.Ground.data }], guard := none }) (v := ?_) rfl (by kernel_rfl) (by kernel_rfl) (by kernel_rfl) (fun _ _ _ h => h) (Or.inl ⟨by rfl, ?_⟩) hHeld ?_
    rotate_left
    · intro W hSw
      (try dsimp only at hSw)
      go_simp
      (try with_reducible rfl)
    (try simp only [Act.put, List.setIfInBounds_toArray, List.set_cons_zero, List.set_cons_succ])
    refine wpAnyH_take (i := 8) (oi := { dst := some 15, op := Go.Op.extract (Go.Operand.tmp 7) 0, type := 97, pos := "gate.go:43", after := #[{ on := 7, ground := Go.Ground.data }], guard := none }) (v := ?_) rfl (by kernel_rfl) (by kernel_rfl) (by kernel_rfl) (fun _ _ _ h => h) (Or.inl ⟨by rfl, ?_⟩) hHeld ?_
    rotate_left
    · intro W hSw
      (try dsimp only at hSw)
      go_simp
      (try with_reducible rfl)
    (try simp only [Act.put, List.setIfInBounds_toArray, List.set_cons_zero, List.set_cons_succ])
    refine wpAnyH_take (i := 9) (oi := { dst := some 16, op := Go.Op.extract (Go.Operand.tmp 7) 1, type := 4, pos := "gate.go:43", after := #[{ on := 7, ground := Go.Ground.data }, { on := 11, ground := Go.Ground.gcOnly Go.Departure.lateStores }], guard := none }) (v := ?_) rfl (by kernel_rfl) (by kernel_rfl) (by kernel_rfl) (fun _ _ _ h => h) (Or.inl ⟨by rfl, ?_⟩) hHeld ?_
    rotate_left
    · intro W hSw
      (try dsimp only at hSw)
      go_simp
      (try with_reducible rfl)
    (try simp only [Act.put, List.setIfInBounds_toArray, List.set_cons_zero, List.set_cons_succ])
    have G4 := hid (G3.out.addBlk [.bool false, .int .i64 0, .int .i64 0, .int .i64 0, .int .i64 0, .int .i64 0, .slice none 0 0] 97)
    obtain ⟨D, hDD⟩ : ∃ D, Hid (D = w3.heap.size) := ⟨_, hid rfl⟩
    rw [← hDD.out] at G4
    refine wpAnyH_ready (rs := [10]) (by kernel_rfl) (by simp) ?_
    refine AllReadyH.cons (o := { dst := some 5, op := Go.Op.alloc 97, type := 0, pos := "gate.go:43", after := #[], guard := none }) rfl (fun K hK => ?_) AllReadyH.nil
    go_simp
    skip
    refine hK.out _ _ (S2.out _ [blkC D [.bool false, .int .i64 0, .int .i64 0, .int .i64 0, .int .i64 0, .int .i64 0, .slice none 0 0] 97] G4.out) (fun hHeld => ?_)
    clear hK K
    (try simp only [Act.put, List.setIfInBounds_toArray, List.set_cons_zero, List.set_cons_succ])
    simp only [← hDD.out]
    have hg := hid G4.out.rest.1.2.1
    have GY := hid (G4.out.setRow (vs' := AC))
    have Z97 := hid (show ([.bool false, .int .i64 0, .int .i64 0, .int .i64 0, .int .i64 0, .int .i64 0, .slice none 0 0] : List Value).toArray.size = AC.toArray.size by rw [hAC.out]; rfl)
    refine wpAnyH_ready (rs := [11]) (by kernel_rfl) (by simp) ?_
    refine AllReadyH.cons (o := { dst := none, op := Go.Op.store 97 (Go.Operand.tmp 5) (Go.Operand.tmp 15), type := 0, pos := "gate.go:43", after := #[{ on := 10, ground := Go.Ground.data }, { on := 8, ground := Go.Ground.data }, { on := 6, ground := Go.Ground.chain }, { on := 0, ground := Go.Ground.phase }, { on := 1, ground := Go.Ground.phase }, { on := 2, ground := Go.Ground.phase }, { on := 3, ground := Go.Ground.phase }, { on := 4, ground := Go.Ground.phase }, { on := 5, ground := Go.Ground.phase }, { on := 6, ground := Go.Ground.phase }, { on := 7, ground := Go.Ground.phase }, { on := 8, ground := Go.Ground.phase }, { on := 9, ground := Go.Ground.textOnly Go.Departure.lateStores }, { on := 10, ground := Go.Ground.phase }], guard := none }) rfl (fun K hK => ?_) AllReadyH.nil
    rw [if_pos (by rfl)]
    refine wp_store_row 97 _ _ rfl D AC.toArray rfl rfl 97 _ hg.out J97.out Z97.out O97.out ?_
    refine hK.out _ _ (S2.out _ [blkC D AC 97] GY.out) (fun hHeld => ?_)
    clear hK K
    (try simp only [Act.put])
    refine wpAnyH_take (i := 12) (oi := { dst := some 6, op := Go.Op.assign (Go.Operand.tmp 16), type := 4, pos := "gate.go:43", after := #[{ on := 9, ground := Go.Ground.data }, { on := 11, ground := Go.Ground.chain }, { on := 0, ground := Go.Ground.phase }, { on := 1, ground := Go.Ground.phase }, { on := 2, ground := Go.Ground.phase }, { on := 3, ground := Go.Ground.phase }, { on := 4, ground := Go.Ground.phase }, { on := 5, ground := Go.Ground.phase }, { on := 6, ground := Go.Ground.phase }, { on := 7, ground := Go.Ground.phase }, { on := 8, ground := Go.Ground.phase }, { on := 9, ground := Go.Ground.phase }, { on := 10, ground := Go.Ground.phase }, { on := 11, ground := Go.Ground.phase }], guard := none }) (v := ?_) rfl (by kernel_rfl) (by kernel_rfl) (by kernel_rfl) (fun _ _ _ h => h) (Or.inl ⟨by rfl, ?_⟩) hHeld ?_
    rotate_left
    · intro W hSw
      (try dsimp only at hSw)
      go_simp
      (try with_reducible rfl)
    (try simp only [Act.put, List.setIfInBounds_toArray, List.set_cons_zero, List.set_cons_succ])
    refine wpAnyH_done (by kernel_rfl) ?_ _
    clear hHeld
    obtain ⟨r4, T37'⟩ := FIN.out _ [] D GY.out.drew
    have T37 := hid T37'
    clear T37'
    go_wp2_with fail
    refine wp_region_held_drew (S := (fun W => W.rangeAt D 0 AC)) (by kernel_rfl) r4 (fun hHeld => ?_)
    refine wpAnyH_take (i := 0) (oi := { dst := some 19, op := Go.Op.move (Go.Operand.tmp 0), type := 27, pos := "gate.go:47", after := #[], guard := none }) (v := ?_) rfl (by kernel_rfl) (by kernel_rfl) (by kernel_rfl) (fun _ _ _ h => h) (Or.inl ⟨by rfl, ?_⟩) hHeld ?_
    rotate_left
    · intro W hSw
      (try dsimp only at hSw)
      go_simp
      (try with_reducible rfl)
    (try simp only [Act.put, List.setIfInBounds_toArray, List.set_cons_zero, List.set_cons_succ])
    refine wpAnyH_take (i := 1) (oi := { dst := some 20, op := Go.Op.nilCheck (Go.Operand.tmp 19), type := 0, pos := "gate.go:47", after := #[{ on := 0, ground := Go.Ground.data }], guard := none }) (v := ?_) rfl (by kernel_rfl) (by kernel_rfl) (by kernel_rfl) (fun _ _ _ h => h) (Or.inl ⟨by rfl, ?_⟩) hHeld ?_
    rotate_left
    · intro W hSw
      (try dsimp only at hSw)
      go_simp
      (try with_reducible rfl)
    (try simp only [Act.put, List.setIfInBounds_toArray, List.set_cons_zero, List.set_cons_succ])
    refine wpAnyH_take (i := 2) (oi := { dst := some 21, op := Go.Op.fieldAddr 79 (Go.Operand.tmp 20) 1, type := 0, pos := "gate.go:47", after := #[{ on := 1, ground := Go.Ground.data }], guard := none }) (v := ?_) rfl (by kernel_rfl) (by kernel_rfl) (by kernel_rfl) (fun _ _ _ h => h) (Or.inl ⟨by rfl, ?_⟩) hHeld ?_
    rotate_left
    · intro W hSw
      (try dsimp only at hSw)
      go_simp
      (try with_reducible rfl)
    (try simp only [Act.put, List.setIfInBounds_toArray, List.set_cons_zero, List.set_cons_succ])
    refine wpAnyH_take (i := 3) (oi := { dst := some 22, op := Go.Op.load 97 (Go.Operand.tmp 5), type := 97, pos := "gate.go:47", after := #[], guard := none }) (v := .agg AC.toArray) rfl (by kernel_rfl) (by kernel_rfl) (by kernel_rfl) (fun _ _ _ h => h) (yieldsIf_load_mid (by rfl) 97 (.tmp 5) rfl D 0 rfl AC _ (fun W hW => hW) Tryz.underlying97 rfl I97.out) hHeld ?_
    (try simp only [Act.put, List.setIfInBounds_toArray, List.set_cons_zero, List.set_cons_succ])
    refine wpAnyH_ready (rs := [4]) (by kernel_rfl) (by simp) ?_
    refine AllReadyH.cons (o := { dst := some 23, op := Go.Op.call { callee := Go.Callee.value (Go.Operand.func 37), args := #[Go.Operand.tmp 21, Go.Operand.tmp 22], argTypes := #[77, 97] }, type := 59, pos := "gate.go:47", after := #[{ on := 2, ground := Go.Ground.data }, { on := 3, ground := Go.Ground.data }], guard := none }) rfl (fun K hK => ?_) AllReadyH.nil
    go_simp
    refine T37.out.mono ?_; rintro e w9 ⟨v9, rfl, r9, hG9⟩; have G9 := hid hG9
    refine hK.out _ _ r9 (fun hHeld => ?_)
    clear hK K
    (try simp only [Act.put, List.setIfInBounds_toArray, List.set_cons_zero, List.set_cons_succ])
    refine wpAnyH_take (i := 5) (oi := { dst := some 4, op := Go.Op.assign (Go.Operand.tmp 23), type := 59, pos := "gate.go:47", after := #[{ on := 4, ground := Go.Ground.data }, { on := 4, ground := Go.Ground.chain }, { on := 0, ground := Go.Ground.phase }, { on := 1, ground := Go.Ground.phase }, { on := 2, ground := Go.Ground.phase }, { on := 3, ground := Go.Ground.phase }, { on := 4, ground := Go.Ground.phase }], guard := none }) (v := ?_) rfl (by kernel_rfl) (by kernel_rfl) (by kernel_rfl) (fun _ _ _ h => h) (Or.inl ⟨by rfl, ?_⟩) hHeld ?_
    rotate_left
    · intro W hSw
      (try dsimp only at hSw)
      go_simp
      (try with_reducible rfl)
    (try simp only [Act.put, List.setIfInBounds_toArray, List.set_cons_zero, List.set_cons_succ])
    refine wpAnyH_done (by kernel_rfl) ?_ _
    clear hHeld
    go_wp2
    go_ret
    exact ⟨_, rfl, G9.out⟩
  · go_simp
    have G3 := hid (G2.out.addBlk [.bool false, .int .i64 0, .int .i64 0, .int .i64 0, .int .i64 0, .int .i64 0, .slice none 0 0] 97)
    obtain ⟨D, hDD⟩ : ∃ D, Hid (D = w1.heap.size) := ⟨_, hid rfl⟩
    have eD : w1.drew.heap.size = w1.heap.size := rfl
    rw [eD, ← hDD.out] at G3
    clear eD
    refine hK.out _ _ (S0.out _ [blkC D [.bool false, .int .i64 0, .int .i64 0, .int .i64 0, .int .i64 0, .int .i64 0, .slice none 0 0] 97] G3.out) (fun hHeld => ?_)
    clear hK K
    (try simp only [Act.put, List.setIfInBounds_toArray, List.set_cons_zero, List.set_cons_succ])
    simp only [← hDD.out]
    refine wpAnyH_ready (rs := [6]) (by kernel_rfl) (by simp) ?_
    refine AllReadyH.cons (o := { dst := some 14, op := Go.Op.call { callee := Go.Callee.value (Go.Operand.func 36), args := #[Go.Operand.tmp 12, Go.Operand.tmp 13], argTypes := #[70, 51] }, type := 98, pos := "gate.go:43", after := #[{ on := 4, ground := Go.Ground.data }, { on := 5, ground := Go.Ground.data }], guard := none }) rfl (fun K hK => ?_) AllReadyH.nil
    go_simp
    refine (HP.out _ [blkC D [.bool false, .int .i64 0, .int .i64 0, .int .i64 0, .int .i64 0, .int .i64 0, .slice none 0 0] 97, blkC M mm.cells 51] G3.out).mono ?_; rintro e w3 ⟨rfl, hG4⟩; have G4 := hid hG4
    refine hK.out _ _ (S2.out _ [blkC D [.bool false, .int .i64 0, .int .i64 0, .int .i64 0, .int .i64 0, .int .i64 0, .slice none 0 0] 97] G4.out) (fun hHeld => ?_)
    clear hK K
    (try simp only [Act.put, List.setIfInBounds_toArray, List.set_cons_zero, List.set_cons_succ])
    refine wpAnyH_take (i := 7) (oi := { dst := some 7, op := Go.Op.move (Go.Operand.tmp 14), type := 98, pos := "gate.go:43", after := #[{ on := 6, ground := Go.Ground.data }], guard := none }) (v := ?_) rfl (by kernel_rfl) (by kernel_rfl) (by kernel_rfl) (fun _ _ _ h => h) (Or.inl ⟨by rfl, ?_⟩) hHeld ?_
    rotate_left
    · intro W hSw
      (try dsimp only at hSw)
      go_simp
      (try with_reducible rfl)
    (try simp only [Act.put, List.setIfInBounds_toArray, List.set_cons_zero, List.set_cons_succ])
    refine wpAnyH_take (i := 8) (oi := { dst := some 15, op := Go.Op.extract (Go.Operand.tmp 7) 0, type := 97, pos := "gate.go:43", after := #[{ on := 7, ground := Go.Ground.data }], guard := none }) (v := ?_) rfl (by kernel_rfl) (by kernel_rfl) (by kernel_rfl) (fun _ _ _ h => h) (Or.inl ⟨by rfl, ?_⟩) hHeld ?_
    rotate_left
    · intro W hSw
      (try dsimp only at hSw)
      go_simp
      (try with_reducible rfl)
    (try simp only [Act.put, List.setIfInBounds_toArray, List.set_cons_zero, List.set_cons_succ])
    refine wpAnyH_take (i := 9) (oi := { dst := some 16, op := Go.Op.extract (Go.Operand.tmp 7) 1, type := 4, pos := "gate.go:43", after := #[{ on := 7, ground := Go.Ground.data }, { on := 11, ground := Go.Ground.gcOnly Go.Departure.lateStores }], guard := none }) (v := ?_) rfl (by kernel_rfl) (by kernel_rfl) (by kernel_rfl) (fun _ _ _ h => h) (Or.inl ⟨by rfl, ?_⟩) hHeld ?_
    rotate_left
    · intro W hSw
      (try dsimp only at hSw)
      go_simp
      (try with_reducible rfl)
    (try simp only [Act.put, List.setIfInBounds_toArray, List.set_cons_zero, List.set_cons_succ])
    have hg := hid G4.out.rest.1.2.1
    have GY := hid (G4.out.setRow (vs' := AC))
    have Z97 := hid (show ([.bool false, .int .i64 0, .int .i64 0, .int .i64 0, .int .i64 0, .int .i64 0, .slice none 0 0] : List Value).toArray.size = AC.toArray.size by rw [hAC.out]; rfl)
    refine wpAnyH_ready (rs := [11]) (by kernel_rfl) (by simp) ?_
    refine AllReadyH.cons (o := { dst := none, op := Go.Op.store 97 (Go.Operand.tmp 5) (Go.Operand.tmp 15), type := 0, pos := "gate.go:43", after := #[{ on := 10, ground := Go.Ground.data }, { on := 8, ground := Go.Ground.data }, { on := 6, ground := Go.Ground.chain }, { on := 0, ground := Go.Ground.phase }, { on := 1, ground := Go.Ground.phase }, { on := 2, ground := Go.Ground.phase }, { on := 3, ground := Go.Ground.phase }, { on := 4, ground := Go.Ground.phase }, { on := 5, ground := Go.Ground.phase }, { on := 6, ground := Go.Ground.phase }, { on := 7, ground := Go.Ground.phase }, { on := 8, ground := Go.Ground.phase }, { on := 9, ground := Go.Ground.textOnly Go.Departure.lateStores }, { on := 10, ground := Go.Ground.phase }], guard := none }) rfl (fun K hK => ?_) AllReadyH.nil
    rw [if_pos (by rfl)]
    refine wp_store_row 97 _ _ rfl D AC.toArray rfl rfl 97 _ hg.out J97.out Z97.out O97.out ?_
    refine hK.out _ _ (S2.out _ [blkC D AC 97] GY.out) (fun hHeld => ?_)
    clear hK K
    (try simp only [Act.put])
    refine wpAnyH_take (i := 12) (oi := { dst := some 6, op := Go.Op.assign (Go.Operand.tmp 16), type := 4, pos := "gate.go:43", after := #[{ on := 9, ground := Go.Ground.data }, { on := 11, ground := Go.Ground.chain }, { on := 0, ground := Go.Ground.phase }, { on := 1, ground := Go.Ground.phase }, { on := 2, ground := Go.Ground.phase }, { on := 3, ground := Go.Ground.phase }, { on := 4, ground := Go.Ground.phase }, { on := 5, ground := Go.Ground.phase }, { on := 6, ground := Go.Ground.phase }, { on := 7, ground := Go.Ground.phase }, { on := 8, ground := Go.Ground.phase }, { on := 9, ground := Go.Ground.phase }, { on := 10, ground := Go.Ground.phase }, { on := 11, ground := Go.Ground.phase }], guard := none }) (v := ?_) rfl (by kernel_rfl) (by kernel_rfl) (by kernel_rfl) (fun _ _ _ h => h) (Or.inl ⟨by rfl, ?_⟩) hHeld ?_
    rotate_left
    · intro W hSw
      (try dsimp only at hSw)
      go_simp
      (try with_reducible rfl)
    (try simp only [Act.put, List.setIfInBounds_toArray, List.set_cons_zero, List.set_cons_succ])
    refine wpAnyH_done (by kernel_rfl) ?_ _
    clear hHeld
    obtain ⟨r4, T37'⟩ := FIN.out _ [] D GY.out.drew
    have T37 := hid T37'
    clear T37'
    go_wp2_with fail
    refine wp_region_held_drew (S := (fun W => W.rangeAt D 0 AC)) (by kernel_rfl) r4 (fun hHeld => ?_)
    refine wpAnyH_take (i := 0) (oi := { dst := some 19, op := Go.Op.move (Go.Operand.tmp 0), type := 27, pos := "gate.go:47", after := #[], guard := none }) (v := ?_) rfl (by kernel_rfl) (by kernel_rfl) (by kernel_rfl) (fun _ _ _ h => h) (Or.inl ⟨by rfl, ?_⟩) hHeld ?_
    rotate_left
    · intro W hSw
      (try dsimp only at hSw)
      go_simp
      (try with_reducible rfl)
    (try simp only [Act.put, List.setIfInBounds_toArray, List.set_cons_zero, List.set_cons_succ])
    refine wpAnyH_take (i := 1) (oi := { dst := some 20, op := Go.Op.nilCheck (Go.Operand.tmp 19), type := 0, pos := "gate.go:47", after := #[{ on := 0, ground := Go.Ground.data }], guard := none }) (v := ?_) rfl (by kernel_rfl) (by kernel_rfl) (by kernel_rfl) (fun _ _ _ h => h) (Or.inl ⟨by rfl, ?_⟩) hHeld ?_
    rotate_left
    · intro W hSw
      (try dsimp only at hSw)
      go_simp
      (try with_reducible rfl)
    (try simp only [Act.put, List.setIfInBounds_toArray, List.set_cons_zero, List.set_cons_succ])
    refine wpAnyH_take (i := 2) (oi := { dst := some 21, op := Go.Op.fieldAddr 79 (Go.Operand.tmp 20) 1, type := 0, pos := "gate.go:47", after := #[{ on := 1, ground := Go.Ground.data }], guard := none }) (v := ?_) rfl (by kernel_rfl) (by kernel_rfl) (by kernel_rfl) (fun _ _ _ h => h) (Or.inl ⟨by rfl, ?_⟩) hHeld ?_
    rotate_left
    · intro W hSw
      (try dsimp only at hSw)
      go_simp
      (try with_reducible rfl)
    (try simp only [Act.put, List.setIfInBounds_toArray, List.set_cons_zero, List.set_cons_succ])
    refine wpAnyH_take (i := 3) (oi := { dst := some 22, op := Go.Op.load 97 (Go.Operand.tmp 5), type := 97, pos := "gate.go:47", after := #[], guard := none }) (v := .agg AC.toArray) rfl (by kernel_rfl) (by kernel_rfl) (by kernel_rfl) (fun _ _ _ h => h) (yieldsIf_load_mid (by rfl) 97 (.tmp 5) rfl D 0 rfl AC _ (fun W hW => hW) Tryz.underlying97 rfl I97.out) hHeld ?_
    (try simp only [Act.put, List.setIfInBounds_toArray, List.set_cons_zero, List.set_cons_succ])
    refine wpAnyH_ready (rs := [4]) (by kernel_rfl) (by simp) ?_
    refine AllReadyH.cons (o := { dst := some 23, op := Go.Op.call { callee := Go.Callee.value (Go.Operand.func 37), args := #[Go.Operand.tmp 21, Go.Operand.tmp 22], argTypes := #[77, 97] }, type := 59, pos := "gate.go:47", after := #[{ on := 2, ground := Go.Ground.data }, { on := 3, ground := Go.Ground.data }], guard := none }) rfl (fun K hK => ?_) AllReadyH.nil
    go_simp
    refine T37.out.mono ?_; rintro e w9 ⟨v9, rfl, r9, hG9⟩; have G9 := hid hG9
    refine hK.out _ _ r9 (fun hHeld => ?_)
    clear hK K
    (try simp only [Act.put, List.setIfInBounds_toArray, List.set_cons_zero, List.set_cons_succ])
    refine wpAnyH_take (i := 5) (oi := { dst := some 4, op := Go.Op.assign (Go.Operand.tmp 23), type := 59, pos := "gate.go:47", after := #[{ on := 4, ground := Go.Ground.data }, { on := 4, ground := Go.Ground.chain }, { on := 0, ground := Go.Ground.phase }, { on := 1, ground := Go.Ground.phase }, { on := 2, ground := Go.Ground.phase }, { on := 3, ground := Go.Ground.phase }, { on := 4, ground := Go.Ground.phase }], guard := none }) (v := ?_) rfl (by kernel_rfl) (by kernel_rfl) (by kernel_rfl) (fun _ _ _ h => h) (Or.inl ⟨by rfl, ?_⟩) hHeld ?_
    rotate_left
    · intro W hSw
      (try dsimp only at hSw)
      go_simp
      (try with_reducible rfl)
    (try simp only [Act.put, List.setIfInBounds_toArray, List.set_cons_zero, List.set_cons_succ])
    refine wpAnyH_done (by kernel_rfl) ?_ _
    clear hHeld
    go_wp2
    go_ret
    exact ⟨_, rfl, G9.out⟩

end Go.Proofs.YtdhkdniddjnigaaGreatDoor

import Derived.Test.YtdhkdniddjnigaaGreatDoorPx12
namespace Go.Proofs.YtdhkdniddjnigaaGreatDoor
open Go.RowKit
set_option linter.unusedVariables false

set_option maxHeartbeats 1600000 in
set_option maxRecDepth 1000000 in
theorem endQ {P : Nat} {x : Px} {b m n1 n2 : Int} {cs : List Comp} {w : World} (h : All (pxL P x b m n1 n2 ++ cs) w) : Calls Tryz.prog 95 #[.pointer (some ⟨P, 13, none⟩)] w fun e w' => e = .returned (.tuple #[]) ∧ All (pxL P { x with qu := x.qu.ended } b m n1 b ++ cs) w' := by
  have c21 : w.cell? ⟨P, 21, none⟩ = some (.pointer (some ⟨x.qu.pb, 0, none⟩)) := by rw [cell_at h.px]; rfl
  have C := hid (reset84 (h.perm (List.perm_middle (l₁ := [blkC P x.cells 111, boC x.rq.pb b m n1]))))
  clear h
  go_enter Tryz.func95, Tryz.ntmps95
  go_wp2_with fail
  refine C.out.mono ?_
  rintro e w1 ⟨rfl, hw1⟩
  have A1 : Hid (All (pxL P x b m n1 b ++ cs) w1) := hid (hw1.perm (List.perm_middle (l₁ := [blkC P x.cells 111, boC x.rq.pb b m n1])).symm)
  clear hw1 C c21
  go_upto_region 1 with fail
  have A2 := hid A1.out.drew
  have p0 : Hid ((fun W => W.cell? ⟨P, 13, none⟩ = some (.int .i64 x.qu.num) ∧ W.cell? ⟨P, 21, none⟩ = some (.pointer (some ⟨x.qu.pb, 0, none⟩))) w1.drew) := hid ⟨by rw [cell_at A2.out.1.2.1]; rfl, by rw [cell_at A2.out.1.2.1]; rfl⟩
  have A3 : Hid (All (pxL P { x with qu := x.qu.ended } b m n1 b ++ cs) (w1.drew.setCells P 13 ([.int .i64 x.qu.num, .bool false, .int .i64 0, .string ⟨#[]⟩, .string ⟨#[]⟩, .int .i64 0, .int .i64 0, .int .i64 0, .pointer (some ⟨x.qu.pb, 0, none⟩)] : List Value).toArray.toList)) := hid (((((((((A2.out.setBlk 13 (.int .i64 x.qu.num)).setBlk 14 (.bool false)).setBlk 15 (.int .i64 0)).setBlk 16 (.string ⟨#[]⟩)).setBlk 17 (.string ⟨#[]⟩)).setBlk 18 (.int .i64 0)).setBlk 19 (.int .i64 0)).setBlk 20 (.int .i64 0)).setBlk 21 (.pointer (some ⟨x.qu.pb, 0, none⟩)))
  have p1 : Hid ((fun W => W.cell? ⟨P, 13, none⟩ = some (.int .i64 x.qu.num) ∧ W.cell? ⟨P, 21, none⟩ = some (.pointer (some ⟨x.qu.pb, 0, none⟩))) (w1.drew.setCells P 13 ([.int .i64 x.qu.num, .bool false, .int .i64 0, .string ⟨#[]⟩, .string ⟨#[]⟩, .int .i64 0, .int .i64 0, .int .i64 0, .pointer (some ⟨x.qu.pb, 0, none⟩)] : List Value).toArray.toList)) := hid ⟨by rw [cell_at A3.out.1.2.1]; rfl, by rw [cell_at A3.out.1.2.1]; rfl⟩
  have TH : Hid (w1.drew.there P 13 (([.int .i64 x.qu.num, .bool false, .int .i64 0, .string ⟨#[]⟩, .string ⟨#[]⟩, .int .i64 0, .int .i64 0, .int .i64 0, .pointer (some ⟨x.qu.pb, 0, none⟩)] : List Value).toArray.size)) := hid (px_there A2.out.1.2.1 13 9 (by omega))
  have I67 : Hid ((Tryz.prog.info? 104).map (·.size) = some (([.int .i64 x.qu.num, .bool false, .int .i64 0, .string ⟨#[]⟩, .string ⟨#[]⟩, .int .i64 0, .int .i64 0, .int .i64 0, .pointer (some ⟨x.qu.pb, 0, none⟩)] : List Value).toArray.size)) := hid info67
  have O67 : Hid ((([.int .i64 x.qu.num, .bool false, .int .i64 0, .string ⟨#[]⟩, .string ⟨#[]⟩, .int .i64 0, .int .i64 0, .int .i64 0, .pointer (some ⟨x.qu.pb, 0, none⟩)] : List Value).toArray).all (·.oneCell') = true) := hid (by simp [Value.oneCell'])
  refine wp_region_held_drew (S := (fun W => W.cell? ⟨P, 13, none⟩ = some (.int .i64 x.qu.num) ∧ W.cell? ⟨P, 21, none⟩ = some (.pointer (some ⟨x.qu.pb, 0, none⟩)))) (by kernel_rfl) p0.out (fun hHeld => ?_)
  refine wpAnyH_take (i := 0) (oi := { dst := some 7, op := Go.Op.move (Go.Operand.tmp 0), type := 165, pos := "waiting.go:50", after := #[], guard := none }) (v := ?_) rfl (by kernel_rfl) (by kernel_rfl) (by kernel_rfl) (fun _ _ _ h => h) (Or.inl ⟨by rfl, ?_⟩) hHeld ?_
  rotate_left
  · intro W hSw
    (try dsimp only at hSw)
    go_simp
    (try with_reducible rfl)
  (try simp only [Act.put, List.setIfInBounds_toArray, List.set_cons_zero, List.set_cons_succ])
  refine wpAnyH_take (i := 1) (oi := { dst := some 8, op := Go.Op.move (Go.Operand.tmp 0), type := 165, pos := "waiting.go:50", after := #[], guard := none }) (v := ?_) rfl (by kernel_rfl) (by kernel_rfl) (by kernel_rfl) (fun _ _ _ h => h) (Or.inl ⟨by rfl, ?_⟩) hHeld ?_
  rotate_left
  · intro W hSw
    (try dsimp only at hSw)
    go_simp
    (try with_reducible rfl)
  (try simp only [Act.put, List.setIfInBounds_toArray, List.set_cons_zero, List.set_cons_succ])
  refine wpAnyH_take (i := 2) (oi := { dst := some 9, op := Go.Op.nilCheck (Go.Operand.tmp 8), type := 0, pos := "waiting.go:50", after := #[{ on := 1, ground := Go.Ground.data }], guard := none }) (v := ?_) rfl (by kernel_rfl) (by kernel_rfl) (by kernel_rfl) (fun _ _ _ h => h) (Or.inl ⟨by rfl, ?_⟩) hHeld ?_
  rotate_left
  · intro W hSw
    (try dsimp only at hSw)
    go_simp
    (try with_reducible rfl)
  (try simp only [Act.put, List.setIfInBounds_toArray, List.set_cons_zero, List.set_cons_succ])
  refine wpAnyH_take (i := 3) (oi := { dst := some 10, op := Go.Op.fieldAddr 104 (Go.Operand.tmp 9) 0, type := 0, pos := "waiting.go:50", after := #[{ on := 2, ground := Go.Ground.data }], guard := none }) (v := ?_) rfl (by kernel_rfl) (by kernel_rfl) (by kernel_rfl) (fun _ _ _ h => h) (Or.inl ⟨by rfl, ?_⟩) hHeld ?_
  rotate_left
  · intro W hSw
    (try dsimp only at hSw)
    go_simp
    (try with_reducible rfl)
  (try simp only [Act.put, List.setIfInBounds_toArray, List.set_cons_zero, List.set_cons_succ])
  refine wpAnyH_take (i := 4) (oi := { dst := some 11, op := Go.Op.load 3 (Go.Operand.tmp 10), type := 3, pos := "waiting.go:50", after := #[{ on := 3, ground := Go.Ground.data }], guard := none }) (v := ?_) rfl (by kernel_rfl) (by kernel_rfl) (by kernel_rfl) (fun _ _ _ h => h) (Or.inl ⟨by rfl, ?_⟩) hHeld ?_
  rotate_left
  · intro W hSw
    (try dsimp only at hSw)
    go_simp
    (try with_reducible rfl)
  (try simp only [Act.put, List.setIfInBounds_toArray, List.set_cons_zero, List.set_cons_succ])
  refine wpAnyH_take (i := 5) (oi := { dst := some 12, op := Go.Op.move (Go.Operand.tmp 0), type := 165, pos := "waiting.go:50", after := #[], guard := none }) (v := ?_) rfl (by kernel_rfl) (by kernel_rfl) (by kernel_rfl) (fun _ _ _ h => h) (Or.inl ⟨by rfl, ?_⟩) hHeld ?_
  rotate_left
  · intro W hSw
    (try dsimp only at hSw)
    go_simp
    (try with_reducible rfl)
  (try simp only [Act.put, List.setIfInBounds_toArray, List.set_cons_zero, List.set_cons_succ])
  refine wpAnyH_take (i := 6) (oi := { dst := some 13, op := Go.Op.nilCheck (Go.Operand.tmp 12), type := 0, pos := "waiting.go:50", after := #[{ on := 5, ground := Go.Ground.data }], guard := none }) (v := ?_) rfl (by kernel_rfl) (by kernel_rfl) (by kernel_rfl) (fun _ _ _ h => h) (Or.inl ⟨by rfl, ?_⟩) hHeld ?_
  rotate_left
  · intro W hSw
    (try dsimp only at hSw)
    go_simp
    (try with_reducible rfl)
  (try simp only [Act.put, List.setIfInBounds_toArray, List.set_cons_zero, List.set_cons_succ])
  refine wpAnyH_take (i := 7) (oi := { dst := some 14, op := Go.Op.fieldAddr 104 (Go.Operand.tmp 13) 4, type := 0, pos := "waiting.go:50", after := #[{ on := 6, ground := Go.Ground.data }], guard := none }) (v := ?_) rfl (by kernel_rfl) (by kernel_rfl) (by kernel_rfl) (fun _ _ _ h => h) (Or.inl ⟨by rfl, ?_⟩) hHeld ?_
  rotate_left
  · intro W hSw
    (try dsimp only at hSw)
    go_simp
    (try with_reducible rfl)
  (try simp only [Act.put, List.setIfInBounds_toArray, List.set_cons_zero, List.set_cons_succ])
  refine wpAnyH_take (i := 8) (oi := { dst := some 15, op := Go.Op.load 102 (Go.Operand.tmp 14), type := 102, pos := "waiting.go:50", after := #[{ on := 7, ground := Go.Ground.data }], guard := none }) (v := ?_) rfl (by kernel_rfl) (by kernel_rfl) (by kernel_rfl) (fun _ _ _ h => h) (Or.inl ⟨by rfl, ?_⟩) hHeld ?_
  rotate_left
  · intro W hSw
    (try dsimp only at hSw)
    go_simp
    (try with_reducible rfl)
  (try simp only [Act.put, List.setIfInBounds_toArray, List.set_cons_zero, List.set_cons_succ])
  refine wpAnyH_take (i := 9) (oi := { dst := some 16, op := Go.Op.build 104 #[(0, Go.Operand.tmp 11), (4, Go.Operand.tmp 15)], type := 104, pos := "waiting.go:50", after := #[{ on := 4, ground := Go.Ground.data }, { on := 8, ground := Go.Ground.data }], guard := none }) (v := .agg ([.int .i64 x.qu.num, .bool false, .int .i64 0, .string ⟨#[]⟩, .string ⟨#[]⟩, .int .i64 0, .int .i64 0, .int .i64 0, .pointer (some ⟨x.qu.pb, 0, none⟩)] : List Value).toArray) rfl (by kernel_rfl) (by kernel_rfl) (by kernel_rfl) (fun _ _ _ h => h) (yieldsIf_build (by rfl) 104 _ rfl ([.int .i64 x.qu.num, .bool false, .int .i64 0, .string ⟨#[]⟩, .string ⟨#[]⟩, .int .i64 0, .int .i64 0, .int .i64 0, .pointer (some ⟨x.qu.pb, 0, none⟩)] : List Value).toArray (by kernel_rfl)) hHeld ?_
  (try simp only [Act.put, List.setIfInBounds_toArray, List.set_cons_zero, List.set_cons_succ])
  refine wpAnyH_take (i := 10) (oi := { dst := some 17, op := Go.Op.nilCheck (Go.Operand.tmp 7), type := 0, pos := "waiting.go:50", after := #[{ on := 0, ground := Go.Ground.data }, { on := 0, ground := Go.Ground.phase }, { on := 1, ground := Go.Ground.phase }, { on := 2, ground := Go.Ground.phase }, { on := 3, ground := Go.Ground.phase }, { on := 4, ground := Go.Ground.phase }, { on := 5, ground := Go.Ground.phase }, { on := 6, ground := Go.Ground.phase }, { on := 7, ground := Go.Ground.phase }, { on := 8, ground := Go.Ground.phase }, { on := 9, ground := Go.Ground.phase }], guard := none }) (v := ?_) rfl (by kernel_rfl) (by kernel_rfl) (by kernel_rfl) (fun _ _ _ h => h) (Or.inl ⟨by rfl, ?_⟩) hHeld ?_
  rotate_left
  · intro W hSw
    (try dsimp only at hSw)
    go_simp
    (try with_reducible rfl)
  (try simp only [Act.put, List.setIfInBounds_toArray, List.set_cons_zero, List.set_cons_succ])
  refine wpAnyH_ready (rs := [11]) (by kernel_rfl) (by simp) ?_
  refine AllReadyH.cons (o := { dst := none, op := Go.Op.store 104 (Go.Operand.tmp 17) (Go.Operand.tmp 16), type := 0, pos := "waiting.go:50", after := #[{ on := 10, ground := Go.Ground.data }, { on := 9, ground := Go.Ground.data }, { on := 0, ground := Go.Ground.phase }, { on := 1, ground := Go.Ground.phase }, { on := 2, ground := Go.Ground.phase }, { on := 3, ground := Go.Ground.phase }, { on := 4, ground := Go.Ground.phase }, { on := 5, ground := Go.Ground.phase }, { on := 6, ground := Go.Ground.phase }, { on := 7, ground := Go.Ground.phase }, { on := 8, ground := Go.Ground.phase }, { on := 9, ground := Go.Ground.phase }], guard := none }) rfl (fun K hK => ?_) AllReadyH.nil
  rw [if_pos (by rfl)]
  refine wp_store_mid 104 _ _ rfl P 13 ([.int .i64 x.qu.num, .bool false, .int .i64 0, .string ⟨#[]⟩, .string ⟨#[]⟩, .int .i64 0, .int .i64 0, .int .i64 0, .pointer (some ⟨x.qu.pb, 0, none⟩)] : List Value).toArray rfl rfl TH.out I67.out O67.out ?_
  refine hK.out _ _ p1.out (fun hHeld => ?_)
  clear hK K
  (try simp only [Act.put])
  refine wpAnyH_done (by kernel_rfl) ?_ _
  clear hHeld
  clear p0 p1 TH I67 O67
  generalize w1.drew.setCells P 13 ([.int .i64 x.qu.num, .bool false, .int .i64 0, .string ⟨#[]⟩, .string ⟨#[]⟩, .int .i64 0, .int .i64 0, .int .i64 0, .pointer (some ⟨x.qu.pb, 0, none⟩)] : List Value).toArray.toList = w2 at A3 ⊢
  go_wp2
  go_end0
  exact ⟨rfl, A3.out⟩

theorem px_rng {W : World} {P : Nat} {x : Px} (h : W.heap[P]? = some (.cells x.cells.toArray 111 (0, 0))) : W.rangeAt P 13 [.int .i64 x.qu.num, .bool x.qu.wts, .int .i64 x.qu.ok, .string x.qu.onm, .string x.qu.otx, .int .i64 x.qu.on, .int .i64 x.qu.om, .int .i64 x.qu.left, .pointer (some ⟨x.qu.pb, 0, none⟩)] := by
  intro j u hu
  rw [cell_at h]
  match j, hu with
  | 0, hu => exact hu
  | 1, hu => exact hu
  | 2, hu => exact hu
  | 3, hu => exact hu
  | 4, hu => exact hu
  | 5, hu => exact hu
  | 6, hu => exact hu
  | 7, hu => exact hu
  | 8, hu => exact hu
  | (j + 9), hu => simp at hu
theorem info72 : (Tryz.prog.info? 109).map (·.size) = some 12 := by kernel_rfl
/-- What is asked for is told: nothing is asked any more. -/
def Px.endq (x : Px) : Px := { x with qu := x.qu.ended, who := 0, least := 0, again := 0 }
set_option maxHeartbeats 1600000 in
set_option maxRecDepth 1000000 in
theorem qend62 {P : Nat} {x : Px} {b m n1 n2 : Int} {cs : List Comp} {w : World} (h : All (pxL P x b m n1 n2 ++ cs) w) : Calls Tryz.prog 97 #[.pointer (some ⟨P, 13, none⟩)] w fun e w' => e = .returned (.tuple #[]) ∧ All (pxL P x.endq b m n1 b ++ cs) w' := by
  have C := hid (endQ h)
  clear h
  go_enter Tryz.func97, Tryz.ntmps97
  go_wp2_with fail
  refine C.out.mono ?_
  rintro e w1 ⟨rfl, hw1⟩
  have A1 := hid hw1
  clear hw1 C
  have A2 := A1
  have p0 : Hid ((fun W => W.rangeAt P 13 [.int .i64 x.qu.num, .bool false, .int .i64 0, .string ⟨#[]⟩, .string ⟨#[]⟩, .int .i64 0, .int .i64 0, .int .i64 0, .pointer (some ⟨x.qu.pb, 0, none⟩)]) w1) := hid (px_rng A2.out.1.2.1)
  have A3 : Hid (All (pxL P x.endq b m n1 b ++ cs) (w1.setCells P 13 ([.int .i64 x.qu.num, .bool false, .int .i64 0, .string ⟨#[]⟩, .string ⟨#[]⟩, .int .i64 0, .int .i64 0, .int .i64 0, .pointer (some ⟨x.qu.pb, 0, none⟩), .int .i64 0, .int .i64 0, .int .i64 0] : List Value).toArray.toList)) := hid ((((((((((((A2.out.setBlk 13 (.int .i64 x.qu.num)).setBlk 14 (.bool false)).setBlk 15 (.int .i64 0)).setBlk 16 (.string ⟨#[]⟩)).setBlk 17 (.string ⟨#[]⟩)).setBlk 18 (.int .i64 0)).setBlk 19 (.int .i64 0)).setBlk 20 (.int .i64 0)).setBlk 21 (.pointer (some ⟨x.qu.pb, 0, none⟩))).setBlk 22 (.int .i64 0)).setBlk 23 (.int .i64 0)).setBlk 24 (.int .i64 0))
  have p1 : Hid ((fun W => W.rangeAt P 13 [.int .i64 x.qu.num, .bool false, .int .i64 0, .string ⟨#[]⟩, .string ⟨#[]⟩, .int .i64 0, .int .i64 0, .int .i64 0, .pointer (some ⟨x.qu.pb, 0, none⟩)]) (w1.setCells P 13 ([.int .i64 x.qu.num, .bool false, .int .i64 0, .string ⟨#[]⟩, .string ⟨#[]⟩, .int .i64 0, .int .i64 0, .int .i64 0, .pointer (some ⟨x.qu.pb, 0, none⟩), .int .i64 0, .int .i64 0, .int .i64 0] : List Value).toArray.toList)) := hid (px_rng A3.out.1.2.1)
  have TH : Hid (w1.there P 13 (([.int .i64 x.qu.num, .bool false, .int .i64 0, .string ⟨#[]⟩, .string ⟨#[]⟩, .int .i64 0, .int .i64 0, .int .i64 0, .pointer (some ⟨x.qu.pb, 0, none⟩), .int .i64 0, .int .i64 0, .int .i64 0] : List Value).toArray.size)) := hid (px_there A2.out.1.2.1 13 12 (by omega))
  have I67 : Hid ((Tryz.prog.info? 104).map (·.size) = some ([.int .i64 x.qu.num, .bool false, .int .i64 0, .string ⟨#[]⟩, .string ⟨#[]⟩, .int .i64 0, .int .i64 0, .int .i64 0, .pointer (some ⟨x.qu.pb, 0, none⟩)] : List Value).length) := hid info67
  have I72 : Hid ((Tryz.prog.info? 109).map (·.size) = some (([.int .i64 x.qu.num, .bool false, .int .i64 0, .string ⟨#[]⟩, .string ⟨#[]⟩, .int .i64 0, .int .i64 0, .int .i64 0, .pointer (some ⟨x.qu.pb, 0, none⟩), .int .i64 0, .int .i64 0, .int .i64 0] : List Value).toArray.size)) := hid info72
  have O72 : Hid ((([.int .i64 x.qu.num, .bool false, .int .i64 0, .string ⟨#[]⟩, .string ⟨#[]⟩, .int .i64 0, .int .i64 0, .int .i64 0, .pointer (some ⟨x.qu.pb, 0, none⟩), .int .i64 0, .int .i64 0, .int .i64 0] : List Value).toArray).all (·.oneCell') = true) := hid (by simp [Value.oneCell'])
  go_wp2_with (first | (refine wpList_load_mid rfl 104 _ rfl P 13 rfl [.int .i64 x.qu.num, .bool false, .int .i64 0, .string ⟨#[]⟩, .string ⟨#[]⟩, .int .i64 0, .int .i64 0, .int .i64 0, .pointer (some ⟨x.qu.pb, 0, none⟩)] _ p0.out Tryz.underlying104 rfl I67.out ?_) | (refine wpList_build rfl 109 _ rfl (by kernel_rfl) ?_) | (refine wpList_store_mid rfl 109 _ _ rfl P 13 ([.int .i64 x.qu.num, .bool false, .int .i64 0, .string ⟨#[]⟩, .string ⟨#[]⟩, .int .i64 0, .int .i64 0, .int .i64 0, .pointer (some ⟨x.qu.pb, 0, none⟩), .int .i64 0, .int .i64 0, .int .i64 0] : List Value).toArray rfl (by kernel_rfl) TH.out I72.out O72.out ?_))
  go_end0
  exact ⟨rfl, A3.out⟩
end Go.Proofs.YtdhkdniddjnigaaGreatDoor

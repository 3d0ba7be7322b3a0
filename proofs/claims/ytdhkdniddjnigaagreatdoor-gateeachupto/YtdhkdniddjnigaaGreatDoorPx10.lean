import Derived.Test.YtdhkdniddjnigaaGreatDoorPx9
namespace Go.Proofs.YtdhkdniddjnigaaGreatDoor
open Go.RowKit
set_option linter.unusedVariables false

theorem px_there {W : World} {P : Nat} {x : Px} (h : W.heap[P]? = some (.cells x.cells.toArray 111 (0, 0))) (o n : Nat) (hn : o + n ≤ 25) : W.there P o n := by
  intro j hj
  refine ⟨?_, free_at h _⟩
  have hl : x.cells.toArray.size = 25 := rfl
  rw [cell_at h, Array.getElem?_eq_getElem (by omega)]
  rfl
def Wt.ended (t : Wt) : Wt := { t with wts := false, ok := 0, onm := ⟨#[]⟩, otx := ⟨#[]⟩, on := 0, om := 0, left := 0 }
set_option maxHeartbeats 1600000 in
set_option maxRecDepth 1000000 in
theorem endR {P : Nat} {x : Px} {b m n1 n2 : Int} {cs : List Comp} {w : World} (h : All (pxL P x b m n1 n2 ++ cs) w) : Calls Tryz.prog 95 #[.pointer (some ⟨P, 4, none⟩)] w fun e w' => e = .returned (.tuple #[]) ∧ All (pxL P { x with rq := x.rq.ended } b m b n2 ++ cs) w' := by
  have c12 : w.cell? ⟨P, 12, none⟩ = some (.pointer (some ⟨x.rq.pb, 0, none⟩)) := by rw [cell_at h.px]; rfl
  have C := hid (reset84 h.swap)
  clear h
  go_enter Tryz.func95, Tryz.ntmps95
  go_wp2_with fail
  refine C.out.mono ?_
  rintro e w1 ⟨rfl, hw1⟩
  have A1 := hid hw1.swap
  clear hw1 C c12
  go_upto_region 1 with fail
  have A2 := hid A1.out.drew
  have p0 : Hid ((fun W => W.cell? ⟨P, 4, none⟩ = some (.int .i64 x.rq.num) ∧ W.cell? ⟨P, 12, none⟩ = some (.pointer (some ⟨x.rq.pb, 0, none⟩))) w1.drew) := hid ⟨by rw [cell_at A2.out.1.2.1]; rfl, by rw [cell_at A2.out.1.2.1]; rfl⟩
  have A3 : Hid (All (pxL P { x with rq := x.rq.ended } b m b n2 ++ cs) (w1.drew.setCells P 4 ([.int .i64 x.rq.num, .bool false, .int .i64 0, .string ⟨#[]⟩, .string ⟨#[]⟩, .int .i64 0, .int .i64 0, .int .i64 0, .pointer (some ⟨x.rq.pb, 0, none⟩)] : List Value).toArray.toList)) := hid (((((((((A2.out.setBlk 4 (.int .i64 x.rq.num)).setBlk 5 (.bool false)).setBlk 6 (.int .i64 0)).setBlk 7 (.string ⟨#[]⟩)).setBlk 8 (.string ⟨#[]⟩)).setBlk 9 (.int .i64 0)).setBlk 10 (.int .i64 0)).setBlk 11 (.int .i64 0)).setBlk 12 (.pointer (some ⟨x.rq.pb, 0, none⟩)))
  have p1 : Hid ((fun W => W.cell? ⟨P, 4, none⟩ = some (.int .i64 x.rq.num) ∧ W.cell? ⟨P, 12, none⟩ = some (.pointer (some ⟨x.rq.pb, 0, none⟩))) (w1.drew.setCells P 4 ([.int .i64 x.rq.num, .bool false, .int .i64 0, .string ⟨#[]⟩, .string ⟨#[]⟩, .int .i64 0, .int .i64 0, .int .i64 0, .pointer (some ⟨x.rq.pb, 0, none⟩)] : List Value).toArray.toList)) := hid ⟨by rw [cell_at A3.out.1.2.1]; rfl, by rw [cell_at A3.out.1.2.1]; rfl⟩
  have TH : Hid (w1.drew.there P 4 (([.int .i64 x.rq.num, .bool false, .int .i64 0, .string ⟨#[]⟩, .string ⟨#[]⟩, .int .i64 0, .int .i64 0, .int .i64 0, .pointer (some ⟨x.rq.pb, 0, none⟩)] : List Value).toArray.size)) := hid (px_there A2.out.1.2.1 4 9 (by omega))
  have I67 : Hid ((Tryz.prog.info? 104).map (·.size) = some (([.int .i64 x.rq.num, .bool false, .int .i64 0, .string ⟨#[]⟩, .string ⟨#[]⟩, .int .i64 0, .int .i64 0, .int .i64 0, .pointer (some ⟨x.rq.pb, 0, none⟩)] : List Value).toArray.size)) := hid info67
  have O67 : Hid ((([.int .i64 x.rq.num, .bool false, .int .i64 0, .string ⟨#[]⟩, .string ⟨#[]⟩, .int .i64 0, .int .i64 0, .int .i64 0, .pointer (some ⟨x.rq.pb, 0, none⟩)] : List Value).toArray).all (·.oneCell') = true) := hid (by simp [Value.oneCell'])
  refine wp_region_held_drew (S := (fun W => W.cell? ⟨P, 4, none⟩ = some (.int .i64 x.rq.num) ∧ W.cell? ⟨P, 12, none⟩ = some (.pointer (some ⟨x.rq.pb, 0, none⟩)))) (by kernel_rfl) p0.out (fun hHeld => ?_)
  refine wpAnyH_take (i := 0) (oi := { dst := some 7, op := Go.Op.move (Go.Operand.tmp 0), type := 165, pos := "waiting.go:50", after := #[], guard := none }) (v := ?_) rfl (by kernel_rfl) (by kernel_rfl) (by kernel_rfl) (fun _ _ _ h => h) (Or.inl ⟨by rfl, ?_⟩) hHeld ?_
  rotate_left
  · intro W hSw
    (try dsimp only at hSw)
    go_simp
    (try with_reducible rfl)
  (try simp only [Act.put, List.setIfInBounds_toArray, List.set_cons_zero, List.set_cons_succ])
  refine wpAnyH_take (i := 1) (oi := { dst := some 8, op := Go.Op.move (Go.Operand.tmp 0), type := 165, pos := "waiting.go:50", after := #[], guard := none }) (v := ?_) rfl (by kernel_rfl) (by kernel_rfl) (by kernel_rfl) (fun _ _ _ h => h) (Or.inl ⟨by rfl, ?_⟩) hHeld ?_
  rotate_left
  · intro W hSw
    (try dsimp only at hSw)
    go_simp
    (try with_reducible rfl)
  (try simp only [Act.put, List.setIfInBounds_toArray, List.set_cons_zero, List.set_cons_succ])
  refine wpAnyH_take (i := 2) (oi := { dst := some 9, op := Go.Op.nilCheck (Go.Operand.tmp 8), type := 0, pos := "waiting.go:50", after := #[{ on := 1, ground := Go.Ground.data }], guard := none }) (v := ?_) rfl (by kernel_rfl) (by kernel_rfl) (by kernel_rfl) (fun _ _ _ h => h) (Or.inl ⟨by rfl, ?_⟩) hHeld ?_
  rotate_left
  · intro W hSw
    (try dsimp only at hSw)
    go_simp
    (try with_reducible rfl)
  (try simp only [Act.put, List.setIfInBounds_toArray, List.set_cons_zero, List.set_cons_succ])
  refine wpAnyH_take (i := 3) (oi := { dst := some 10, op := Go.Op.fieldAddr 104 (Go.Operand.tmp 9) 0, type := 0, pos := "waiting.go:50", after := #[{ on := 2, ground := Go.Ground.data }], guard := none }) (v := ?_) rfl (by kernel_rfl) (by kernel_rfl) (by kernel_rfl) (fun _ _ _ h => h) (Or.inl ⟨by rfl, ?_⟩) hHeld ?_
  rotate_left
  · intro W hSw
    (try dsimp only at hSw)
    go_simp
    (try with_reducible rfl)
  (try simp only [Act.put, List.setIfInBounds_toArray, List.set_cons_zero, List.set_cons_succ])
  refine wpAnyH_take (i := 4) (oi := { dst := some 11, op := Go.Op.load 3 (Go.Operand.tmp 10), type := 3, pos := "waiting.go:50", after := #[{ on := 3, ground := Go.Ground.data }], guard := none }) (v := ?_) rfl (by kernel_rfl) (by kernel_rfl) (by kernel_rfl) (fun _ _ _ h => h) (Or.inl ⟨by rfl, ?_⟩) hHeld ?_
  rotate_left
  · intro W hSw
    (try dsimp only at hSw)
    go_simp
    (try with_reducible rfl)
  (try simp only [Act.put, List.setIfInBounds_toArray, List.set_cons_zero, List.set_cons_succ])
  refine wpAnyH_take (i := 5) (oi := { dst := some 12, op := Go.Op.move (Go.Operand.tmp 0), type := 165, pos := "waiting.go:50", after := #[], guard := none }) (v := ?_) rfl (by kernel_rfl) (by kernel_rfl) (by kernel_rfl) (fun _ _ _ h => h) (Or.inl ⟨by rfl, ?_⟩) hHeld ?_
  rotate_left
  · intro W hSw
    (try dsimp only at hSw)
    go_simp
    (try with_reducible rfl)
  (try simp only [Act.put, List.setIfInBounds_toArray, List.set_cons_zero, List.set_cons_succ])
  refine wpAnyH_take (i := 6) (oi := { dst := some 13, op := Go.Op.nilCheck (Go.Operand.tmp 12), type := 0, pos := "waiting.go:50", after := #[{ on := 5, ground := Go.Ground.data }], guard := none }) (v := ?_) rfl (by kernel_rfl) (by kernel_rfl) (by kernel_rfl) (fun _ _ _ h => h) (Or.inl ⟨by rfl, ?_⟩) hHeld ?_
  rotate_left
  · intro W hSw
    (try dsimp only at hSw)
    go_simp
    (try with_reducible rfl)
  (try simp only [Act.put, List.setIfInBounds_toArray, List.set_cons_zero, List.set_cons_succ])
  refine wpAnyH_take (i := 7) (oi := { dst := some 14, op := Go.Op.fieldAddr 104 (Go.Operand.tmp 13) 4, type := 0, pos := "waiting.go:50", after := #[{ on := 6, ground := Go.Ground.data }], guard := none }) (v := ?_) rfl (by kernel_rfl) (by kernel_rfl) (by kernel_rfl) (fun _ _ _ h => h) (Or.inl ⟨by rfl, ?_⟩) hHeld ?_
  rotate_left
  · intro W hSw
    (try dsimp only at hSw)
    go_simp
    (try with_reducible rfl)
  (try simp only [Act.put, List.setIfInBounds_toArray, List.set_cons_zero, List.set_cons_succ])
  refine wpAnyH_take (i := 8) (oi := { dst := some 15, op := Go.Op.load 102 (Go.Operand.tmp 14), type := 102, pos := "waiting.go:50", after := #[{ on := 7, ground := Go.Ground.data }], guard := none }) (v := ?_) rfl (by kernel_rfl) (by kernel_rfl) (by kernel_rfl) (fun _ _ _ h => h) (Or.inl ⟨by rfl, ?_⟩) hHeld ?_
  rotate_left
  · intro W hSw
    (try dsimp only at hSw)
    go_simp
    (try with_reducible rfl)
  (try simp only [Act.put, List.setIfInBounds_toArray, List.set_cons_zero, List.set_cons_succ])
  refine wpAnyH_take (i := 9) (oi := { dst := some 16, op := Go.Op.build 104 #[(0, Go.Operand.tmp 11), (4, Go.Operand.tmp 15)], type := 104, pos := "waiting.go:50", after := #[{ on := 4, ground := Go.Ground.data }, { on := 8, ground := Go.Ground.data }], guard := none }) (v := .agg ([.int .i64 x.rq.num, .bool false, .int .i64 0, .string ⟨#[]⟩, .string ⟨#[]⟩, .int .i64 0, .int .i64 0, .int .i64 0, .pointer (some ⟨x.rq.pb, 0, none⟩)] : List Value).toArray) rfl (by kernel_rfl) (by kernel_rfl) (by kernel_rfl) (fun _ _ _ h => h) (yieldsIf_build (by rfl) 104 _ rfl ([.int .i64 x.rq.num, .bool false, .int .i64 0, .string ⟨#[]⟩, .string ⟨#[]⟩, .int .i64 0, .int .i64 0, .int .i64 0, .pointer (some ⟨x.rq.pb, 0, none⟩)] : List Value).toArray (by kernel_rfl)) hHeld ?_
  (try simp only [Act.put, List.setIfInBounds_toArray, List.set_cons_zero, List.set_cons_succ])
  refine wpAnyH_take (i := 10) (oi := { dst := some 17, op := Go.Op.nilCheck (Go.Operand.tmp 7), type := 0, pos := "waiting.go:50", after := #[{ on := 0, ground := Go.Ground.data }, { on := 0, ground := Go.Ground.phase }, { on := 1, ground := Go.Ground.phase }, { on := 2, ground := Go.Ground.phase }, { on := 3, ground := Go.Ground.phase }, { on := 4, ground := Go.Ground.phase }, { on := 5, ground := Go.Ground.phase }, { on := 6, ground := Go.Ground.phase }, { on := 7, ground := Go.Ground.phase }, { on := 8, ground := Go.Ground.phase }, { on := 9, ground := Go.Ground.phase }], guard := none }) (v := ?_) rfl (by kernel_rfl) (by kernel_rfl) (by kernel_rfl) (fun _ _ _ h => h) (Or.inl ⟨by rfl, ?_⟩) hHeld ?_
  rotate_left
  · intro W hSw
    (try dsimp only at hSw)
    go_simp
    (try with_reducible rfl)
  (try simp only [Act.put, List.setIfInBounds_toArray, List.set_cons_zero, List.set_cons_succ])
  refine wpAnyH_ready (rs := [11]) (by kernel_rfl) (by simp) ?_
  refine AllReadyH.cons (o := { dst := none, op := Go.Op.store 104 (Go.Operand.tmp 17) (Go.Operand.tmp 16), type := 0, pos := "waiting.go:50", after := #[{ on := 10, ground := Go.Ground.data }, { on := 9, ground := Go.Ground.data }, { on := 0, ground := Go.Ground.phase }, { on := 1, ground := Go.Ground.phase }, { on := 2, ground := Go.Ground.phase }, { on := 3, ground := Go.Ground.phase }, { on := 4, ground := Go.Ground.phase }, { on := 5, ground := Go.Ground.phase }, { on := 6, ground := Go.Ground.phase }, { on := 7, ground := Go.Ground.phase }, { on := 8, ground := Go.Ground.phase }, { on := 9, ground := Go.Ground.phase }], guard := none }) rfl (fun K hK => ?_) AllReadyH.nil
  rw [if_pos (by rfl)]
  refine wp_store_mid 104 _ _ rfl P 4 ([.int .i64 x.rq.num, .bool false, .int .i64 0, .string ⟨#[]⟩, .string ⟨#[]⟩, .int .i64 0, .int .i64 0, .int .i64 0, .pointer (some ⟨x.rq.pb, 0, none⟩)] : List Value).toArray rfl rfl TH.out I67.out O67.out ?_
  refine hK.out _ _ p1.out (fun hHeld => ?_)
  clear hK K
  (try simp only [Act.put])
  refine wpAnyH_done (by kernel_rfl) ?_ _
  clear hHeld
  clear p0 p1 TH I67 O67
  generalize w1.drew.setCells P 4 ([.int .i64 x.rq.num, .bool false, .int .i64 0, .string ⟨#[]⟩, .string ⟨#[]⟩, .int .i64 0, .int .i64 0, .int .i64 0, .pointer (some ⟨x.rq.pb, 0, none⟩)] : List Value).toArray.toList = w2 at A3 ⊢
  go_wp2
  go_end0
  exact ⟨rfl, A3.out⟩

theorem info48 : (Tryz.prog.info? 97).map (·.size) = some 7 := by kernel_rfl
abbrev zR : Value := .agg #[.int .i64 0, .int .i64 0, .slice none 0 0]
set_option maxRecDepth 1000000 in
theorem clone_nil {w : World} : Calls Tryz.prog 130 #[.slice none 0 0] w fun e w' => e = .returned (.slice none 0 0) ∧ w' = w := by
  have he := fun w => Lib.run_eql_slice_nil (P := Tryz.prog) w 43 9 none 0 0 0 0 Tryz.underlying43
  go_enter Tryz.func130, Tryz.ntmps130
  go_wp2
  go_ret
  exact ⟨rfl, rfl⟩
set_option maxRecDepth 1000000 in
theorem copied_nil {w : World} : Calls Tryz.prog 96 #[zR] w fun e w' => e = .returned zR ∧ Below w.heap.size w w' := by
  have C : Hid (∀ W : World, Calls Tryz.prog 130 #[.slice none 0 0] W fun e w' => e = .returned (.slice none 0 0) ∧ w' = W) := hid (fun W => clone_nil)
  go_enter Tryz.func96, Tryz.ntmps96
  go_wp2_with (go_at_call 130; refine (C.out _).mono ?_; rintro e w' ⟨rfl, rfl⟩)
  refine bodyPost_ret (v := zR) (by simp only [results, Tryz.f96]; go_simp) rfl ?_
  exact ⟨rfl, b2' (ba _ _) (ba _ _)⟩

end Go.Proofs.YtdhkdniddjnigaaGreatDoor

import Derived.Test.YtdhkdniddjnigaaGreatDoorPx3
namespace Go.Proofs.YtdhkdniddjnigaaGreatDoor
open Go.RowKit
set_option linter.unusedVariables false
theorem yieldsIf_build {P : Program} {ops : Array Oper} {S : World → Prop} {op : Oper} {a : Act} (hw : Region.wanted op (yielded ops a.tmps) = true) (t : TypeId) (parts : Array (Nat × Operand)) (ho : op.op = .build t parts)
    (cells : Array Value) (hf : P.built t (parts.map fun (i, x) => (i, a.eval x)).toList = some cells) : YieldsIf P ops S op (.agg cells) a :=
  .inl ⟨hw, fun w _ => by
    unfold execOp
    simp only [ho, Sem.run_bind, run_build w t _ _ hf, Result.andThen_ok]
    rfl⟩
/-- A request. -/
def rqM (f t : Int) (x : Wt) : Ms := ⟨1, f, t, 0, 0, 0, 0, 0, x.num, false, x.ok, x.onm, x.otx, x.on, x.om, 0, 0, none, 0, 0, none, 0, 0, 0, 0, none, 0, 0, none, 0, 0⟩
/-- A question. -/
def asM (f t l : Int) (x : Wt) : Ms := ⟨14, f, t, 0, l, 0, 0, 0, x.num, false, x.ok, x.onm, x.otx, x.on, x.om, 0, 0, none, 0, 0, none, 0, 0, 0, 0, none, 0, 0, none, 0, 0⟩
def zM : Ms := ⟨0, 0, 0, 0, 0, 0, 0, 0, 0, false, 0, ⟨#[]⟩, ⟨#[]⟩, 0, 0, 0, 0, none, 0, 0, none, 0, 0, 0, 0, none, 0, 0, none, 0, 0⟩
theorem All.setRow {g : Nat} {vs vs' : List Value} {t : TypeId} {cs : List Comp} {w : World} (h : All (blkC g vs t :: cs) w) : All (blkC g vs' t :: cs) (w.setRow g vs'.toArray) := by
  have hg : w.heap[g]? = some (.cells vs.toArray t (0, 0)) := h.1.2.1
  refine h.turn ⟨rfl, rfl, rfl, by simp [World.setRow], fun k hk hn => ?_⟩ (blkC_good _ _ _) (setRow_heap w g _ _ t (0, 0) hg) (fun k hk => Or.inl hk) (fun k hk => ?_)
  · exact setRow_other w g k _ (by simpa [blkC] using hn)
  · have : k = g := by simpa [blkC] using hk
    subst this
    simpa [World.setRow] using h.1.2.2 k (by simp [blkC])
theorem info41 (m : Ms) : (Tryz.prog.info? 51).map (·.size) = some m.cells.toArray.size := show (Tryz.prog.info? 51).map (·.size) = some 23 by kernel_rfl
theorem one41 (m : Ms) : m.cells.toArray.all (·.oneCell') = true := by simp [Ms.cells, Value.oneCell']

set_option maxHeartbeats 1600000 in
set_option maxRecDepth 1000000 in
theorem msgR {P : Nat} {x : Px} {b m n1 n2 : Int} {cs : List Comp} {w : World} (h : All (pxL P x b m n1 n2 ++ cs) w) (f t : Int) : Calls Tryz.prog 78 #[.pointer (some ⟨P, 4, none⟩), .int .i64 f, .int .i64 t] w fun e w' => e = .returned (.agg (rqM f t x.rq).cells.toArray) ∧ Below w.heap.size w w' := by
  obtain ⟨G, hG⟩ : ∃ G, Hid (G = w.heap.size) := ⟨_, hid rfl⟩
  have A1 : Hid (All (blkC G zM.cells 51 :: inC w :: []) (w.alloc (.cells zM.cells.toArray 51))) := hid (by rw [hG.out]; exact (All.came w).addBlk zM.cells 51)
  have SF : Hid (∀ W, Below w.heap.size w W → (fun W => W.cell? ⟨P, 4, none⟩ = some (.int .i64 x.rq.num) ∧ W.cell? ⟨P, 6, none⟩ = some (.int .i64 x.rq.ok) ∧ W.cell? ⟨P, 7, none⟩ = some (.string x.rq.onm) ∧ W.cell? ⟨P, 8, none⟩ = some (.string x.rq.otx) ∧ W.cell? ⟨P, 9, none⟩ = some (.int .i64 x.rq.on) ∧ W.cell? ⟨P, 10, none⟩ = some (.int .i64 x.rq.om)) W) := hid (fun W hW => ⟨cell_under hW (h.1.2.2 P (by simp [blkC])) (by rw [cell_at h.px]; rfl), cell_under hW (h.1.2.2 P (by simp [blkC])) (by rw [cell_at h.px]; rfl), cell_under hW (h.1.2.2 P (by simp [blkC])) (by rw [cell_at h.px]; rfl), cell_under hW (h.1.2.2 P (by simp [blkC])) (by rw [cell_at h.px]; rfl), cell_under hW (h.1.2.2 P (by simp [blkC])) (by rw [cell_at h.px]; rfl), cell_under hW (h.1.2.2 P (by simp [blkC])) (by rw [cell_at h.px]; rfl)⟩)
  have eZ : Hid (zM.cells.toArray = #[.int .i64 0, .int .i64 0, .int .i64 0, .int .i64 0, .int .i64 0, .int .i64 0, .int .i64 0, .int .i64 0, .int .i64 0, .bool false, .int .i64 0, .string ⟨#[]⟩, .string ⟨#[]⟩, .int .i64 0, .int .i64 0, .int .i64 0, .int .i64 0, .slice none 0 0, .slice none 0 0, .int .i64 0, .int .i64 0, .slice none 0 0, .slice none 0 0]) := hid rfl
  have I41 := hid (info41 (rqM f t x.rq))
  have O41 := hid (one41 (rqM f t x.rq))
  have Z41 : Hid (zM.cells.toArray.size = (rqM f t x.rq).cells.toArray.size) := hid rfl
  obtain ⟨MM, hMM⟩ : ∃ MM, Hid (MM = (rqM f t x.rq).cells) := ⟨_, hid rfl⟩
  rw [← hMM.out] at I41 O41 Z41 ⊢
  clear h
  go_enter Tryz.func78, Tryz.ntmps78
  go_upto_region 1 with fail
  rw [← eZ.out]
  simp only [← hG.out]
  generalize w.alloc (.cells zM.cells.toArray 51) = w1 at A1 ⊢
  have A2 := hid A1.out.drew
  have p0 := hid (SF.out _ (A2.out.into (by simp)))
  have A3 := hid (A2.out.setRow (vs' := MM))
  have hg2 : Hid (w1.drew.heap[G]? = some (.cells zM.cells.toArray 51 (0, 0))) := hid A2.out.1.2.1
  have p1 := hid (SF.out _ (A3.out.into (by simp)))
  refine wp_region_held_drew (S := (fun W => W.cell? ⟨P, 4, none⟩ = some (.int .i64 x.rq.num) ∧ W.cell? ⟨P, 6, none⟩ = some (.int .i64 x.rq.ok) ∧ W.cell? ⟨P, 7, none⟩ = some (.string x.rq.onm) ∧ W.cell? ⟨P, 8, none⟩ = some (.string x.rq.otx) ∧ W.cell? ⟨P, 9, none⟩ = some (.int .i64 x.rq.on) ∧ W.cell? ⟨P, 10, none⟩ = some (.int .i64 x.rq.om))) (by kernel_rfl) p0.out (fun hHeld => ?_)
  refine wpAnyH_take (i := 0) (oi := { dst := some 7, op := Go.Op.move (Go.Operand.tmp 1), type := 3, pos := "waiting.go:89", after := #[], guard := none }) (v := ?_) rfl (by kernel_rfl) (by kernel_rfl) (by kernel_rfl) (fun _ _ _ h => h) (Or.inl ⟨by rfl, ?_⟩) hHeld ?_
  rotate_left
  · intro W hSw
    (try dsimp only at hSw)
    go_simp
    (try with_reducible rfl)
  (try simp only [Act.put, List.setIfInBounds_toArray, List.set_cons_zero, List.set_cons_succ])
  refine wpAnyH_take (i := 1) (oi := { dst := some 8, op := Go.Op.move (Go.Operand.tmp 2), type := 3, pos := "waiting.go:89", after := #[], guard := none }) (v := ?_) rfl (by kernel_rfl) (by kernel_rfl) (by kernel_rfl) (fun _ _ _ h => h) (Or.inl ⟨by rfl, ?_⟩) hHeld ?_
  rotate_left
  · intro W hSw
    (try dsimp only at hSw)
    go_simp
    (try with_reducible rfl)
  (try simp only [Act.put, List.setIfInBounds_toArray, List.set_cons_zero, List.set_cons_succ])
  refine wpAnyH_take (i := 2) (oi := { dst := some 9, op := Go.Op.move (Go.Operand.tmp 0), type := 177, pos := "waiting.go:89", after := #[], guard := none }) (v := ?_) rfl (by kernel_rfl) (by kernel_rfl) (by kernel_rfl) (fun _ _ _ h => h) (Or.inl ⟨by rfl, ?_⟩) hHeld ?_
  rotate_left
  · intro W hSw
    (try dsimp only at hSw)
    go_simp
    (try with_reducible rfl)
  (try simp only [Act.put, List.setIfInBounds_toArray, List.set_cons_zero, List.set_cons_succ])
  refine wpAnyH_take (i := 3) (oi := { dst := some 10, op := Go.Op.nilCheck (Go.Operand.tmp 9), type := 0, pos := "waiting.go:89", after := #[{ on := 2, ground := Go.Ground.data }], guard := none }) (v := ?_) rfl (by kernel_rfl) (by kernel_rfl) (by kernel_rfl) (fun _ _ _ h => h) (Or.inl ⟨by rfl, ?_⟩) hHeld ?_
  rotate_left
  · intro W hSw
    (try dsimp only at hSw)
    go_simp
    (try with_reducible rfl)
  (try simp only [Act.put, List.setIfInBounds_toArray, List.set_cons_zero, List.set_cons_succ])
  refine wpAnyH_take (i := 4) (oi := { dst := some 11, op := Go.Op.fieldAddr 107 (Go.Operand.tmp 10) 0, type := 0, pos := "waiting.go:89", after := #[{ on := 3, ground := Go.Ground.data }], guard := none }) (v := ?_) rfl (by kernel_rfl) (by kernel_rfl) (by kernel_rfl) (fun _ _ _ h => h) (Or.inl ⟨by rfl, ?_⟩) hHeld ?_
  rotate_left
  · intro W hSw
    (try dsimp only at hSw)
    go_simp
    (try with_reducible rfl)
  (try simp only [Act.put, List.setIfInBounds_toArray, List.set_cons_zero, List.set_cons_succ])
  refine wpAnyH_take (i := 5) (oi := { dst := some 12, op := Go.Op.fieldAddr 104 (Go.Operand.tmp 11) 0, type := 0, pos := "waiting.go:89", after := #[{ on := 4, ground := Go.Ground.data }], guard := none }) (v := ?_) rfl (by kernel_rfl) (by kernel_rfl) (by kernel_rfl) (fun _ _ _ h => h) (Or.inl ⟨by rfl, ?_⟩) hHeld ?_
  rotate_left
  · intro W hSw
    (try dsimp only at hSw)
    go_simp
    (try with_reducible rfl)
  (try simp only [Act.put, List.setIfInBounds_toArray, List.set_cons_zero, List.set_cons_succ])
  refine wpAnyH_take (i := 6) (oi := { dst := some 13, op := Go.Op.load 3 (Go.Operand.tmp 12), type := 3, pos := "waiting.go:89", after := #[{ on := 5, ground := Go.Ground.data }], guard := none }) (v := ?_) rfl (by kernel_rfl) (by kernel_rfl) (by kernel_rfl) (fun _ _ _ h => h) (Or.inl ⟨by rfl, ?_⟩) hHeld ?_
  rotate_left
  · intro W hSw
    (try dsimp only at hSw)
    go_simp
    (try with_reducible rfl)
  (try simp only [Act.put, List.setIfInBounds_toArray, List.set_cons_zero, List.set_cons_succ])
  refine wpAnyH_take (i := 7) (oi := { dst := some 14, op := Go.Op.move (Go.Operand.tmp 0), type := 177, pos := "waiting.go:89", after := #[], guard := none }) (v := ?_) rfl (by kernel_rfl) (by kernel_rfl) (by kernel_rfl) (fun _ _ _ h => h) (Or.inl ⟨by rfl, ?_⟩) hHeld ?_
  rotate_left
  · intro W hSw
    (try dsimp only at hSw)
    go_simp
    (try with_reducible rfl)
  (try simp only [Act.put, List.setIfInBounds_toArray, List.set_cons_zero, List.set_cons_succ])
  refine wpAnyH_take (i := 8) (oi := { dst := some 15, op := Go.Op.nilCheck (Go.Operand.tmp 14), type := 0, pos := "waiting.go:89", after := #[{ on := 7, ground := Go.Ground.data }], guard := none }) (v := ?_) rfl (by kernel_rfl) (by kernel_rfl) (by kernel_rfl) (fun _ _ _ h => h) (Or.inl ⟨by rfl, ?_⟩) hHeld ?_
  rotate_left
  · intro W hSw
    (try dsimp only at hSw)
    go_simp
    (try with_reducible rfl)
  (try simp only [Act.put, List.setIfInBounds_toArray, List.set_cons_zero, List.set_cons_succ])
  refine wpAnyH_take (i := 9) (oi := { dst := some 16, op := Go.Op.fieldAddr 107 (Go.Operand.tmp 15) 0, type := 0, pos := "waiting.go:89", after := #[{ on := 8, ground := Go.Ground.data }], guard := none }) (v := ?_) rfl (by kernel_rfl) (by kernel_rfl) (by kernel_rfl) (fun _ _ _ h => h) (Or.inl ⟨by rfl, ?_⟩) hHeld ?_
  rotate_left
  · intro W hSw
    (try dsimp only at hSw)
    go_simp
    (try with_reducible rfl)
  (try simp only [Act.put, List.setIfInBounds_toArray, List.set_cons_zero, List.set_cons_succ])
  refine wpAnyH_take (i := 10) (oi := { dst := some 17, op := Go.Op.fieldAddr 104 (Go.Operand.tmp 16) 2, type := 0, pos := "waiting.go:89", after := #[{ on := 9, ground := Go.Ground.data }], guard := none }) (v := ?_) rfl (by kernel_rfl) (by kernel_rfl) (by kernel_rfl) (fun _ _ _ h => h) (Or.inl ⟨by rfl, ?_⟩) hHeld ?_
  rotate_left
  · intro W hSw
    (try dsimp only at hSw)
    go_simp
    (try with_reducible rfl)
  (try simp only [Act.put, List.setIfInBounds_toArray, List.set_cons_zero, List.set_cons_succ])
  refine wpAnyH_take (i := 11) (oi := { dst := some 18, op := Go.Op.load 42 (Go.Operand.tmp 17), type := 42, pos := "waiting.go:89", after := #[{ on := 10, ground := Go.Ground.data }], guard := none }) (v := ?_) rfl (by kernel_rfl) (by kernel_rfl) (by kernel_rfl) (fun _ _ _ h => h) (Or.inl ⟨by rfl, ?_⟩) hHeld ?_
  rotate_left
  · intro W hSw
    (try dsimp only at hSw)
    go_simp
    (try with_reducible rfl)
  (try simp only [Act.put, List.setIfInBounds_toArray, List.set_cons_zero, List.set_cons_succ])
  refine wpAnyH_take (i := 12) (oi := { dst := some 19, op := Go.Op.build 51 #[(0, Go.Operand.const (Go.Value.int Go.IntKind.i64 1)), (1, Go.Operand.tmp 7), (2, Go.Operand.tmp 8), (8, Go.Operand.tmp 13), (10, Go.Operand.tmp 18)], type := 51, pos := "waiting.go:89", after := #[{ on := 0, ground := Go.Ground.data }, { on := 1, ground := Go.Ground.data }, { on := 6, ground := Go.Ground.data }, { on := 11, ground := Go.Ground.data }], guard := none }) (v := .agg MM.toArray) rfl (by kernel_rfl) (by kernel_rfl) (by kernel_rfl) (fun _ _ _ h => h) (yieldsIf_build (by rfl) 51 _ rfl MM.toArray (by rw [hMM.out]; kernel_rfl)) hHeld ?_
  (try simp only [Act.put, List.setIfInBounds_toArray, List.set_cons_zero, List.set_cons_succ])
  refine wpAnyH_ready (rs := [13]) (by kernel_rfl) (by simp) ?_
  refine AllReadyH.cons (o := { dst := none, op := Go.Op.store 51 (Go.Operand.tmp 6) (Go.Operand.tmp 19), type := 0, pos := "waiting.go:89", after := #[{ on := 12, ground := Go.Ground.data }, { on := 0, ground := Go.Ground.phase }, { on := 1, ground := Go.Ground.phase }, { on := 2, ground := Go.Ground.phase }, { on := 3, ground := Go.Ground.phase }, { on := 4, ground := Go.Ground.phase }, { on := 5, ground := Go.Ground.phase }, { on := 6, ground := Go.Ground.phase }, { on := 7, ground := Go.Ground.phase }, { on := 8, ground := Go.Ground.phase }, { on := 9, ground := Go.Ground.phase }, { on := 10, ground := Go.Ground.phase }, { on := 11, ground := Go.Ground.phase }, { on := 12, ground := Go.Ground.phase }], guard := none }) rfl (fun K hK => ?_) AllReadyH.nil
  rw [if_pos (by rfl)]
  refine wp_store_row 51 _ _ rfl G MM.toArray rfl rfl 51 _ hg2.out I41.out Z41.out O41.out ?_
  refine hK.out _ _ p1.out (fun hHeld => ?_)
  clear hK K
  (try simp only [Act.put])
  refine wpAnyH_done (by kernel_rfl) ?_ _
  clear hHeld
  clear p0 p1 hg2
  generalize w1.drew.setRow G MM.toArray = w2 at A3 ⊢
  go_wp2
  refine bodyPost_ret (v := .agg MM.toArray) (results_cell_row (fn := Tryz.f78) rfl _ _ G 51 MM.toArray (0, 0) _ rfl A3.out.1.2.1 Tryz.underlying51 rfl I41.out) rfl ?_
  exact ⟨rfl, A3.out.into (by simp)⟩

set_option maxHeartbeats 1600000 in
set_option maxRecDepth 1000000 in
theorem msgQ {P : Nat} {x : Px} {b m n1 n2 : Int} {cs : List Comp} {w : World} (h : All (pxL P x b m n1 n2 ++ cs) w) (f t : Int) : Calls Tryz.prog 79 #[.pointer (some ⟨P, 13, none⟩), .int .i64 f, .int .i64 t] w fun e w' => e = .returned (.agg (asM f t x.least x.qu).cells.toArray) ∧ Below w.heap.size w w' := by
  obtain ⟨G, hG⟩ : ∃ G, Hid (G = w.heap.size) := ⟨_, hid rfl⟩
  have A1 : Hid (All (blkC G zM.cells 51 :: inC w :: []) (w.alloc (.cells zM.cells.toArray 51))) := hid (by rw [hG.out]; exact (All.came w).addBlk zM.cells 51)
  have SF : Hid (∀ W, Below w.heap.size w W → (fun W => W.cell? ⟨P, 13, none⟩ = some (.int .i64 x.qu.num) ∧ W.cell? ⟨P, 15, none⟩ = some (.int .i64 x.qu.ok) ∧ W.cell? ⟨P, 16, none⟩ = some (.string x.qu.onm) ∧ W.cell? ⟨P, 17, none⟩ = some (.string x.qu.otx) ∧ W.cell? ⟨P, 18, none⟩ = some (.int .i64 x.qu.on) ∧ W.cell? ⟨P, 19, none⟩ = some (.int .i64 x.qu.om) ∧ W.cell? ⟨P, 23, none⟩ = some (.int .i64 x.least)) W) := hid (fun W hW => ⟨cell_under hW (h.1.2.2 P (by simp [blkC])) (by rw [cell_at h.px]; rfl), cell_under hW (h.1.2.2 P (by simp [blkC])) (by rw [cell_at h.px]; rfl), cell_under hW (h.1.2.2 P (by simp [blkC])) (by rw [cell_at h.px]; rfl), cell_under hW (h.1.2.2 P (by simp [blkC])) (by rw [cell_at h.px]; rfl), cell_under hW (h.1.2.2 P (by simp [blkC])) (by rw [cell_at h.px]; rfl), cell_under hW (h.1.2.2 P (by simp [blkC])) (by rw [cell_at h.px]; rfl), cell_under hW (h.1.2.2 P (by simp [blkC])) (by rw [cell_at h.px]; rfl)⟩)
  have eZ : Hid (zM.cells.toArray = #[.int .i64 0, .int .i64 0, .int .i64 0, .int .i64 0, .int .i64 0, .int .i64 0, .int .i64 0, .int .i64 0, .int .i64 0, .bool false, .int .i64 0, .string ⟨#[]⟩, .string ⟨#[]⟩, .int .i64 0, .int .i64 0, .int .i64 0, .int .i64 0, .slice none 0 0, .slice none 0 0, .int .i64 0, .int .i64 0, .slice none 0 0, .slice none 0 0]) := hid rfl
  have I41 := hid (info41 (asM f t x.least x.qu))
  have O41 := hid (one41 (asM f t x.least x.qu))
  have Z41 : Hid (zM.cells.toArray.size = (asM f t x.least x.qu).cells.toArray.size) := hid rfl
  obtain ⟨MM, hMM⟩ : ∃ MM, Hid (MM = (asM f t x.least x.qu).cells) := ⟨_, hid rfl⟩
  rw [← hMM.out] at I41 O41 Z41 ⊢
  clear h
  go_enter Tryz.func79, Tryz.ntmps79
  go_upto_region 1 with fail
  rw [← eZ.out]
  simp only [← hG.out]
  generalize w.alloc (.cells zM.cells.toArray 51) = w1 at A1 ⊢
  have A2 := hid A1.out.drew
  have p0 := hid (SF.out _ (A2.out.into (by simp)))
  have A3 := hid (A2.out.setRow (vs' := MM))
  have hg2 : Hid (w1.drew.heap[G]? = some (.cells zM.cells.toArray 51 (0, 0))) := hid A2.out.1.2.1
  have p1 := hid (SF.out _ (A3.out.into (by simp)))
  refine wp_region_held_drew (S := (fun W => W.cell? ⟨P, 13, none⟩ = some (.int .i64 x.qu.num) ∧ W.cell? ⟨P, 15, none⟩ = some (.int .i64 x.qu.ok) ∧ W.cell? ⟨P, 16, none⟩ = some (.string x.qu.onm) ∧ W.cell? ⟨P, 17, none⟩ = some (.string x.qu.otx) ∧ W.cell? ⟨P, 18, none⟩ = some (.int .i64 x.qu.on) ∧ W.cell? ⟨P, 19, none⟩ = some (.int .i64 x.qu.om) ∧ W.cell? ⟨P, 23, none⟩ = some (.int .i64 x.least))) (by kernel_rfl) p0.out (fun hHeld => ?_)
  refine wpAnyH_take (i := 0) (oi := { dst := some 7, op := Go.Op.move (Go.Operand.tmp 1), type := 3, pos := "waiting.go:93", after := #[], guard := none }) (v := ?_) rfl (by kernel_rfl) (by kernel_rfl) (by kernel_rfl) (fun _ _ _ h => h) (Or.inl ⟨by rfl, ?_⟩) hHeld ?_
  rotate_left
  · intro W hSw
    (try dsimp only at hSw)
    go_simp
    (try with_reducible rfl)
  (try simp only [Act.put, List.setIfInBounds_toArray, List.set_cons_zero, List.set_cons_succ])
  refine wpAnyH_take (i := 1) (oi := { dst := some 8, op := Go.Op.move (Go.Operand.tmp 2), type := 3, pos := "waiting.go:93", after := #[], guard := none }) (v := ?_) rfl (by kernel_rfl) (by kernel_rfl) (by kernel_rfl) (fun _ _ _ h => h) (Or.inl ⟨by rfl, ?_⟩) hHeld ?_
  rotate_left
  · intro W hSw
    (try dsimp only at hSw)
    go_simp
    (try with_reducible rfl)
  (try simp only [Act.put, List.setIfInBounds_toArray, List.set_cons_zero, List.set_cons_succ])
  refine wpAnyH_take (i := 2) (oi := { dst := some 9, op := Go.Op.move (Go.Operand.tmp 0), type := 178, pos := "waiting.go:93", after := #[], guard := none }) (v := ?_) rfl (by kernel_rfl) (by kernel_rfl) (by kernel_rfl) (fun _ _ _ h => h) (Or.inl ⟨by rfl, ?_⟩) hHeld ?_
  rotate_left
  · intro W hSw
    (try dsimp only at hSw)
    go_simp
    (try with_reducible rfl)
  (try simp only [Act.put, List.setIfInBounds_toArray, List.set_cons_zero, List.set_cons_succ])
  refine wpAnyH_take (i := 3) (oi := { dst := some 10, op := Go.Op.nilCheck (Go.Operand.tmp 9), type := 0, pos := "waiting.go:93", after := #[{ on := 2, ground := Go.Ground.data }], guard := none }) (v := ?_) rfl (by kernel_rfl) (by kernel_rfl) (by kernel_rfl) (fun _ _ _ h => h) (Or.inl ⟨by rfl, ?_⟩) hHeld ?_
  rotate_left
  · intro W hSw
    (try dsimp only at hSw)
    go_simp
    (try with_reducible rfl)
  (try simp only [Act.put, List.setIfInBounds_toArray, List.set_cons_zero, List.set_cons_succ])
  refine wpAnyH_take (i := 4) (oi := { dst := some 11, op := Go.Op.fieldAddr 109 (Go.Operand.tmp 10) 0, type := 0, pos := "waiting.go:93", after := #[{ on := 3, ground := Go.Ground.data }], guard := none }) (v := ?_) rfl (by kernel_rfl) (by kernel_rfl) (by kernel_rfl) (fun _ _ _ h => h) (Or.inl ⟨by rfl, ?_⟩) hHeld ?_
  rotate_left
  · intro W hSw
    (try dsimp only at hSw)
    go_simp
    (try with_reducible rfl)
  (try simp only [Act.put, List.setIfInBounds_toArray, List.set_cons_zero, List.set_cons_succ])
  refine wpAnyH_take (i := 5) (oi := { dst := some 12, op := Go.Op.fieldAddr 104 (Go.Operand.tmp 11) 0, type := 0, pos := "waiting.go:93", after := #[{ on := 4, ground := Go.Ground.data }], guard := none }) (v := ?_) rfl (by kernel_rfl) (by kernel_rfl) (by kernel_rfl) (fun _ _ _ h => h) (Or.inl ⟨by rfl, ?_⟩) hHeld ?_
  rotate_left
  · intro W hSw
    (try dsimp only at hSw)
    go_simp
    (try with_reducible rfl)
  (try simp only [Act.put, List.setIfInBounds_toArray, List.set_cons_zero, List.set_cons_succ])
  refine wpAnyH_take (i := 6) (oi := { dst := some 13, op := Go.Op.load 3 (Go.Operand.tmp 12), type := 3, pos := "waiting.go:93", after := #[{ on := 5, ground := Go.Ground.data }], guard := none }) (v := ?_) rfl (by kernel_rfl) (by kernel_rfl) (by kernel_rfl) (fun _ _ _ h => h) (Or.inl ⟨by rfl, ?_⟩) hHeld ?_
  rotate_left
  · intro W hSw
    (try dsimp only at hSw)
    go_simp
    (try with_reducible rfl)
  (try simp only [Act.put, List.setIfInBounds_toArray, List.set_cons_zero, List.set_cons_succ])
  refine wpAnyH_take (i := 7) (oi := { dst := some 14, op := Go.Op.move (Go.Operand.tmp 0), type := 178, pos := "waiting.go:93", after := #[], guard := none }) (v := ?_) rfl (by kernel_rfl) (by kernel_rfl) (by kernel_rfl) (fun _ _ _ h => h) (Or.inl ⟨by rfl, ?_⟩) hHeld ?_
  rotate_left
  · intro W hSw
    (try dsimp only at hSw)
    go_simp
    (try with_reducible rfl)
  (try simp only [Act.put, List.setIfInBounds_toArray, List.set_cons_zero, List.set_cons_succ])
  refine wpAnyH_take (i := 8) (oi := { dst := some 15, op := Go.Op.nilCheck (Go.Operand.tmp 14), type := 0, pos := "waiting.go:93", after := #[{ on := 7, ground := Go.Ground.data }], guard := none }) (v := ?_) rfl (by kernel_rfl) (by kernel_rfl) (by kernel_rfl) (fun _ _ _ h => h) (Or.inl ⟨by rfl, ?_⟩) hHeld ?_
  rotate_left
  · intro W hSw
    (try dsimp only at hSw)
    go_simp
    (try with_reducible rfl)
  (try simp only [Act.put, List.setIfInBounds_toArray, List.set_cons_zero, List.set_cons_succ])
  refine wpAnyH_take (i := 9) (oi := { dst := some 16, op := Go.Op.fieldAddr 109 (Go.Operand.tmp 15) 2, type := 0, pos := "waiting.go:93", after := #[{ on := 8, ground := Go.Ground.data }], guard := none }) (v := ?_) rfl (by kernel_rfl) (by kernel_rfl) (by kernel_rfl) (fun _ _ _ h => h) (Or.inl ⟨by rfl, ?_⟩) hHeld ?_
  rotate_left
  · intro W hSw
    (try dsimp only at hSw)
    go_simp
    (try with_reducible rfl)
  (try simp only [Act.put, List.setIfInBounds_toArray, List.set_cons_zero, List.set_cons_succ])
  refine wpAnyH_take (i := 10) (oi := { dst := some 17, op := Go.Op.load 3 (Go.Operand.tmp 16), type := 3, pos := "waiting.go:93", after := #[{ on := 9, ground := Go.Ground.data }], guard := none }) (v := ?_) rfl (by kernel_rfl) (by kernel_rfl) (by kernel_rfl) (fun _ _ _ h => h) (Or.inl ⟨by rfl, ?_⟩) hHeld ?_
  rotate_left
  · intro W hSw
    (try dsimp only at hSw)
    go_simp
    (try with_reducible rfl)
  (try simp only [Act.put, List.setIfInBounds_toArray, List.set_cons_zero, List.set_cons_succ])
  refine wpAnyH_take (i := 11) (oi := { dst := some 18, op := Go.Op.move (Go.Operand.tmp 0), type := 178, pos := "waiting.go:93", after := #[], guard := none }) (v := ?_) rfl (by kernel_rfl) (by kernel_rfl) (by kernel_rfl) (fun _ _ _ h => h) (Or.inl ⟨by rfl, ?_⟩) hHeld ?_
  rotate_left
  · intro W hSw
    (try dsimp only at hSw)
    go_simp
    (try with_reducible rfl)
  (try simp only [Act.put, List.setIfInBounds_toArray, List.set_cons_zero, List.set_cons_succ])
  refine wpAnyH_take (i := 12) (oi := { dst := some 19, op := Go.Op.nilCheck (Go.Operand.tmp 18), type := 0, pos := "waiting.go:93", after := #[{ on := 11, ground := Go.Ground.data }], guard := none }) (v := ?_) rfl (by kernel_rfl) (by kernel_rfl) (by kernel_rfl) (fun _ _ _ h => h) (Or.inl ⟨by rfl, ?_⟩) hHeld ?_
  rotate_left
  · intro W hSw
    (try dsimp only at hSw)
    go_simp
    (try with_reducible rfl)
  (try simp only [Act.put, List.setIfInBounds_toArray, List.set_cons_zero, List.set_cons_succ])
  refine wpAnyH_take (i := 13) (oi := { dst := some 20, op := Go.Op.fieldAddr 109 (Go.Operand.tmp 19) 0, type := 0, pos := "waiting.go:93", after := #[{ on := 12, ground := Go.Ground.data }], guard := none }) (v := ?_) rfl (by kernel_rfl) (by kernel_rfl) (by kernel_rfl) (fun _ _ _ h => h) (Or.inl ⟨by rfl, ?_⟩) hHeld ?_
  rotate_left
  · intro W hSw
    (try dsimp only at hSw)
    go_simp
    (try with_reducible rfl)
  (try simp only [Act.put, List.setIfInBounds_toArray, List.set_cons_zero, List.set_cons_succ])
  refine wpAnyH_take (i := 14) (oi := { dst := some 21, op := Go.Op.fieldAddr 104 (Go.Operand.tmp 20) 2, type := 0, pos := "waiting.go:93", after := #[{ on := 13, ground := Go.Ground.data }], guard := none }) (v := ?_) rfl (by kernel_rfl) (by kernel_rfl) (by kernel_rfl) (fun _ _ _ h => h) (Or.inl ⟨by rfl, ?_⟩) hHeld ?_
  rotate_left
  · intro W hSw
    (try dsimp only at hSw)
    go_simp
    (try with_reducible rfl)
  (try simp only [Act.put, List.setIfInBounds_toArray, List.set_cons_zero, List.set_cons_succ])
  refine wpAnyH_take (i := 15) (oi := { dst := some 22, op := Go.Op.load 42 (Go.Operand.tmp 21), type := 42, pos := "waiting.go:93", after := #[{ on := 14, ground := Go.Ground.data }], guard := none }) (v := ?_) rfl (by kernel_rfl) (by kernel_rfl) (by kernel_rfl) (fun _ _ _ h => h) (Or.inl ⟨by rfl, ?_⟩) hHeld ?_
  rotate_left
  · intro W hSw
    (try dsimp only at hSw)
    go_simp
    (try with_reducible rfl)
  (try simp only [Act.put, List.setIfInBounds_toArray, List.set_cons_zero, List.set_cons_succ])
  refine wpAnyH_take (i := 16) (oi := { dst := some 23, op := Go.Op.build 51 #[(0, Go.Operand.const (Go.Value.int Go.IntKind.i64 14)), (1, Go.Operand.tmp 7), (2, Go.Operand.tmp 8), (8, Go.Operand.tmp 13), (4, Go.Operand.tmp 17), (10, Go.Operand.tmp 22)], type := 51, pos := "waiting.go:93", after := #[{ on := 0, ground := Go.Ground.data }, { on := 1, ground := Go.Ground.data }, { on := 6, ground := Go.Ground.data }, { on := 10, ground := Go.Ground.data }, { on := 15, ground := Go.Ground.data }], guard := none }) (v := .agg MM.toArray) rfl (by kernel_rfl) (by kernel_rfl) (by kernel_rfl) (fun _ _ _ h => h) (yieldsIf_build (by rfl) 51 _ rfl MM.toArray (by rw [hMM.out]; kernel_rfl)) hHeld ?_
  (try simp only [Act.put, List.setIfInBounds_toArray, List.set_cons_zero, List.set_cons_succ])
  refine wpAnyH_ready (rs := [17]) (by kernel_rfl) (by simp) ?_
  refine AllReadyH.cons (o := { dst := none, op := Go.Op.store 51 (Go.Operand.tmp 6) (Go.Operand.tmp 23), type := 0, pos := "waiting.go:93", after := #[{ on := 16, ground := Go.Ground.data }, { on := 0, ground := Go.Ground.phase }, { on := 1, ground := Go.Ground.phase }, { on := 2, ground := Go.Ground.phase }, { on := 3, ground := Go.Ground.phase }, { on := 4, ground := Go.Ground.phase }, { on := 5, ground := Go.Ground.phase }, { on := 6, ground := Go.Ground.phase }, { on := 7, ground := Go.Ground.phase }, { on := 8, ground := Go.Ground.phase }, { on := 9, ground := Go.Ground.phase }, { on := 10, ground := Go.Ground.phase }, { on := 11, ground := Go.Ground.phase }, { on := 12, ground := Go.Ground.phase }, { on := 13, ground := Go.Ground.phase }, { on := 14, ground := Go.Ground.phase }, { on := 15, ground := Go.Ground.phase }, { on := 16, ground := Go.Ground.phase }], guard := none }) rfl (fun K hK => ?_) AllReadyH.nil
  rw [if_pos (by rfl)]
  refine wp_store_row 51 _ _ rfl G MM.toArray rfl rfl 51 _ hg2.out I41.out Z41.out O41.out ?_
  refine hK.out _ _ p1.out (fun hHeld => ?_)
  clear hK K
  (try simp only [Act.put])
  refine wpAnyH_done (by kernel_rfl) ?_ _
  clear hHeld
  clear p0 p1 hg2
  generalize w1.drew.setRow G MM.toArray = w2 at A3 ⊢
  go_wp2
  refine bodyPost_ret (v := .agg MM.toArray) (results_cell_row (fn := Tryz.f79) rfl _ _ G 51 MM.toArray (0, 0) _ rfl A3.out.1.2.1 Tryz.underlying51 rfl I41.out) rfl ?_
  exact ⟨rfl, A3.out.into (by simp)⟩
end Go.Proofs.YtdhkdniddjnigaaGreatDoor

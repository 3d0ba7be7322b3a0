import Derived.Test.YtdhkdniddjnigaaGreatDoorJ12
import Derived.Deep.Draws
import Derived.Deep.Upon
import Derived.Deep.QuietTactic
import Derived.BigQuiet
namespace Go.Proofs.YtdhkdniddjnigaaGreatDoor
open Go.RowKit
set_option linter.unusedVariables false
theorem yieldsIf_build {P : Program} {ops : Array Oper} {S : World → Prop} {op : Oper} {a : Act} (hw : Region.wanted op (yielded ops a.tmps) = true) (t : TypeId) (parts : Array (Nat × Operand)) (ho : op.op = .build t parts)
    (cells : Array Value) (hf : P.built t (parts.map fun (i, x) => (i, a.eval x)).toList = some cells) : YieldsIf P ops S op (.agg cells) a :=
  .inl ⟨hw, fun w _ => by
    unfold execOp
    simp only [ho, Sem.run_bind, run_build w t _ _ hf, Result.andThen_ok]
    rfl⟩
/-- A request. -/
def rqM (f t : Int) (x : Wt) : Ms := ⟨1, f, t, 0, 0, 0, 0, 0, x.num, false, x.ok, x.onm, x.otx, x.on, x.om, 0, 0, none, 0, 0, none, 0, 0, 0, 0, none, 0, 0, none, 0, 0⟩
/-- A question. -/
def asM (f t l : Int) (x : Wt) : Ms := ⟨14, f, t, 0, l, 0, 0, 0, x.num, false, x.ok, x.onm, x.otx, x.on, x.om, 0, 0, none, 0, 0, none, 0, 0, 0, 0, none, 0, 0, none, 0, 0⟩
def zM : Ms := ⟨0, 0, 0, 0, 0, 0, 0, 0, 0, false, 0, ⟨#[]⟩, ⟨#[]⟩, 0, 0, 0, 0, none, 0, 0, none, 0, 0, 0, 0, none, 0, 0, none, 0, 0⟩
theorem All.setRow {g : Nat} {vs vs' : List Value} {t : TypeId} {cs : List Comp} {w : World} (h : All (blkC g vs t :: cs) w) : All (blkC g vs' t :: cs) (w.setRow g vs'.toArray) := by
  have hg : w.heap[g]? = some (.cells vs.toArray t (0, 0)) := h.1.2.1
  refine h.turn ⟨rfl, rfl, rfl, by simp [World.setRow], fun k hk hn => ?_⟩ (blkC_good _ _ _) (setRow_heap w g _ _ t (0, 0) hg) (fun k hk => Or.inl hk) (fun k hk => ?_)
  · exact setRow_other w g k _ (by simpa [blkC] using hn)
  · have : k = g := by simpa [blkC] using hk
    subst this
    simpa [World.setRow] using h.1.2.2 k (by simp [blkC])
theorem info41 (m : Ms) : (Tryz.prog.info? 51).map (·.size) = some m.cells.toArray.size := show (Tryz.prog.info? 51).map (·.size) = some 23 by kernel_rfl
theorem one41 (m : Ms) : m.cells.toArray.all (·.oneCell') = true := by simp [Ms.cells, Value.oneCell']

set_option maxHeartbeats 1600000 in
set_option maxRecDepth 1000000 in
theorem msgR {P : Nat} {x : Px} {b m n1 n2 : Int} {cs : List Comp} {w : World} (h : All (pxL P x b m n1 n2 ++ cs) w) (f t : Int) : Calls Tryz.prog 78 #[.pointer (some ⟨P, 4, none⟩), .int .i64 f, .int .i64 t] w fun e w' => e = .returned (.agg (rqM f t x.rq).cells.toArray) ∧ Below w.heap.size w w' := by
  obtain ⟨G, hG⟩ : ∃ G, Hid (G = w.heap.size) := ⟨_, hid rfl⟩
  have A1 : Hid (All (blkC G zM.cells 51 :: inC w :: []) (w.alloc (.cells zM.cells.toArray 51))) := hid (by rw [hG.out]; exact (All.came w).addBlk zM.cells 51)
  have SF : Hid (∀ W, Below w.heap.size w W → (fun W => W.cell? ⟨P, 4, none⟩ = some (.int .i64 x.rq.num) ∧ W.cell? ⟨P, 6, none⟩ = some (.int .i64 x.rq.ok) ∧ W.cell? ⟨P, 7, none⟩ = some (.string x.rq.onm) ∧ W.cell? ⟨P, 8, none⟩ = some (.string x.rq.otx) ∧ W.cell? ⟨P, 9, none⟩ = some (.int .i64 x.rq.on) ∧ W.cell? ⟨P, 10, none⟩ = some (.int .i64 x.rq.om)) W) := hid (fun W hW => ⟨cell_under hW (h.1.2.2 P (by simp [blkC])) (by rw [cell_at h.px]; rfl), cell_under hW (h.1.2.2 P (by simp [blkC])) (by rw [cell_at h.px]; rfl), cell_under hW (h.1.2.2 P (by simp [blkC])) (by rw [cell_at h.px]; rfl), cell_under hW (h.1.2.2 P (by simp [blkC])) (by rw [cell_at h.px]; rfl), cell_under hW (h.1.2.2 P (by simp [blkC])) (by rw [cell_at h.px]; rfl), cell_under hW (h.1.2.2 P (by simp [blkC])) (by rw [cell_at h.px]; rfl)⟩)
  have eZ : Hid (zM.cells.toArray = #[.int .i64 0, .int .i64 0, .int .i64 0, .int .i64 0, .int .i64 0, .int .i64 0, .int .i64 0, .int .i64 0, .int .i64 0, .bool false, .int .i64 0, .string ⟨#[]⟩, .string ⟨#[]⟩, .int .i64 0, .int .i64 0, .int .i64 0, .int .i64 0, .slice none 0 0, .slice none 0 0, .int .i64 0, .int .i64 0, .slice none 0 0, .slice none 0 0]) := hid rfl
  have I41 := hid (info41 (rqM f t x.rq))
  have O41 := hid (one41 (rqM f t x.rq))
  have Z41 : Hid (zM.cells.toArray.size = (rqM f t x.rq).cells.toArray.size) := hid rfl
  obtain ⟨MM, hMM⟩ : ∃ MM, Hid (MM = (rqM f t x.rq).cells) := ⟨_, hid rfl⟩
  rw [← hMM.out] at I41 O41 Z41 ⊢
  clear h
  go_enter Tryz.func78, Tryz.ntmps78
  go_upto_region 1 with fail
  rw [← eZ.out]
  simp only [← hG.out]
  generalize w.alloc (.cells zM.cells.toArray 51) = w1 at A1 ⊢
  have A2 := hid A1.out.drew
  have p0 := hid (SF.out _ (A2.out.into (by simp)))
  have A3 := hid (A2.out.setRow (vs' := MM))
  have hg2 : Hid (w1.drew.heap[G]? = some (.cells zM.cells.toArray 51 (0, 0))) := hid A2.out.1.2.1
  have p1 := hid (SF.out _ (A3.out.into (by simp)))
  refine wp_region_held_drew (S := (fun W => W.cell? ⟨P, 4, none⟩ = some (.int .i64 x.rq.num) ∧ W.cell? ⟨P, 6, none⟩ = some (.int .i64 x.rq.ok) ∧ W.cell? ⟨P, 7, none⟩ = some (.string x.rq.onm) ∧ W.cell? ⟨P, 8, none⟩ = some (.string x.rq.otx) ∧ W.cell? ⟨P, 9, none⟩ = some (.int .i64 x.rq.on) ∧ W.cell? ⟨P, 10, none⟩ = some (.int .i64 x.rq.om))) (by kernel_rfl) p0.out (fun hHeld => ?_)
  refine wpAnyH_take (i := 0) (oi := { dst := some 7, op := Go.Op.move (Go.Operand.tmp 1), type := 3, pos := "waiting.go:89", after := #[], guard := none }) (v := ?_) rfl (by kernel_rfl) (by kernel_rfl) (by kernel_rfl) (fun _ _ _ h => h) (Or.inl ⟨by rfl, ?_⟩) hHeld ?_
  rotate_left
  · intro W hSw
    (try dsimp only at hSw)
    go_simp
    (try with_reducible rfl)
  (try simp only [Act.put, List.setIfInBounds_toArray, List.set_cons_zero, List.set_cons_succ])
  refine wpAnyH_take (i := 1) (oi := { dst := some 8, op := Go.Op.move (Go.Operand.tmp 2), type := 3, pos := "waiting.go:89", after := #[], guard := none }) (v := ?_) rfl (by kernel_rfl) (by kernel_rfl) (by kernel_rfl) (fun _ _ _ h => h) (Or.inl ⟨by rfl, ?_⟩) hHeld ?_
  rotate_left
  · intro W hSw
    (try dsimp only at hSw)
    go_simp
    (try with_reducible rfl)
  (try simp only [Act.put, List.setIfInBounds_toArray, List.set_cons_zero, List.set_cons_succ])
  refine wpAnyH_take (i := 2) (oi := { dst := some 9, op := Go.Op.move (Go.Operand.tmp 0), type := 177, pos := "waiting.go:89", after := #[], guard := none }) (v := ?_) rfl (by kernel_rfl) (by kernel_rfl) (by kernel_rfl) (fun _ _ _ h => h) (Or.inl ⟨by rfl, ?_⟩) hHeld ?_
  rotate_left
  · intro W hSw
    (try dsimp only at hSw)
    go_simp
    (try with_reducible rfl)
  (try simp only [Act.put, List.setIfInBounds_toArray, List.set_cons_zero, List.set_cons_succ])
  refine wpAnyH_take (i := 3) (oi := { dst := some 10, op := Go.Op.nilCheck (Go.Operand.tmp 9), type := 0, pos := "waiting.go:89", after := #[{ on := 2, ground := Go.Ground.data }], guard := none }) (v := ?_) rfl (by kernel_rfl) (by kernel_rfl) (by kernel_rfl) (fun _ _ _ h => h) (Or.inl ⟨by rfl, ?_⟩) hHeld ?_
  rotate_left
  · intro W hSw
    (try dsimp only at hSw)
    go_simp
    (try with_reducible rfl)
  (try simp only [Act.put, List.setIfInBounds_toArray, List.set_cons_zero, List.set_cons_succ])
  refine wpAnyH_take (i := 4) (oi := { dst := some 11, op := Go.Op.fieldAddr 107 (Go.Operand.tmp 10) 0, type := 0, pos := "waiting.go:89", after := #[{ on := 3, ground := Go.Ground.data }], guard := none }) (v := ?_) rfl (by kernel_rfl) (by kernel_rfl) (by kernel_rfl) (fun _ _ _ h => h) (Or.inl ⟨by rfl, ?_⟩) hHeld ?_
  rotate_left
  · intro W hSw
    (try dsimp only at hSw)
    go_simp
    (try with_reducible rfl)
  (try simp only [Act.put, List.setIfInBounds_toArray, List.set_cons_zero, List.set_cons_succ])
  refine wpAnyH_take (i := 5) (oi := { dst := some 12, op := Go.Op.fieldAddr 104 (Go.Operand.tmp 11) 0, type := 0, pos := "waiting.go:89", after := #[{ on := 4, ground := Go.Ground.data }], guard := none }) (v := ?_) rfl (by kernel_rfl) (by kernel_rfl) (by kernel_rfl) (fun _ _ _ h => h) (Or.inl ⟨by rfl, ?_⟩) hHeld ?_
  rotate_left
  · intro W hSw
    (try dsimp only at hSw)
    go_simp
    (try with_reducible rfl)
  (try simp only [Act.put, List.setIfInBounds_toArray, List.set_cons_zero, List.set_cons_succ])
  refine wpAnyH_take (i := 6) (oi := { dst := some 13, op := Go.Op.load 3 (Go.Operand.tmp 12), type := 3, pos := "waiting.go:89", after := #[{ on := 5, ground := Go.Ground.data }], guard := none }) (v := ?_) rfl (by kernel_rfl) (by kernel_rfl) (by kernel_rfl) (fun _ _ _ h => h) (Or.inl ⟨by rfl, ?_⟩) hHeld ?_
  rotate_left
  · intro W hSw
    (try dsimp only at hSw)
    go_simp
    (try with_reducible rfl)
  (try simp only [Act.put, List.setIfInBounds_toArray, List.set_cons_zero, List.set_cons_succ])
  refine wpAnyH_take (i := 7) (oi := { dst := some 14, op := Go.Op.move (Go.Operand.tmp 0), type := 177, pos := "waiting.go:89", after := #[], guard := none }) (v := ?_) rfl (by kernel_rfl) (by kernel_rfl) (by kernel_rfl) (fun _ _ _ h => h) (Or.inl ⟨by rfl, ?_⟩) hHeld ?_
  rotate_left
  · intro W hSw
    (try dsimp only at hSw)
    go_simp
    (try with_reducible rfl)
  (try simp only [Act.put, List.setIfInBounds_toArray, List.set_cons_zero, List.set_cons_succ])
  refine wpAnyH_take (i := 8) (oi := { dst := some 15, op := Go.Op.nilCheck (Go.Operand.tmp 14), type := 0, pos := "waiting.go:89", after := #[{ on := 7, ground := Go.Ground.data }], guard := none }) (v := ?_) rfl (by kernel_rfl) (by kernel_rfl) (by kernel_rfl) (fun _ _ _ h => h) (Or.inl ⟨by rfl, ?_⟩) hHeld ?_
  rotate_left
  · intro W hSw
    (try dsimp only at hSw)
    go_simp
    (try with_reducible rfl)
  (try simp only [Act.put, List.setIfInBounds_toArray, List.set_cons_zero, List.set_cons_succ])
  refine wpAnyH_take (i := 9) (oi := { dst := some 16, op := Go.Op.fieldAddr 107 (Go.Operand.tmp 15) 0, type := 0, pos := "waiting.go:89", after := #[{ on := 8, ground := Go.Ground.data }], guard := none }) (v := ?_) rfl (by kernel_rfl) (by kernel_rfl) (by kernel_rfl) (fun _ _ _ h => h) (Or.inl ⟨by rfl, ?_⟩) hHeld ?_
  rotate_left
  · intro W hSw
    (try dsimp only at hSw)
    go_simp
    (try with_reducible rfl)
  (try simp only [Act.put, List.setIfInBounds_toArray, List.set_cons_zero, List.set_cons_succ])
  refine wpAnyH_take (i := 10) (oi := { dst := some 17, op := Go.Op.fieldAddr 104 (Go.Operand.tmp 16) 2, type := 0, pos := "waiting.go:89", after := #[{ on := 9, ground := Go.Ground.data }], guard := none }) (v := ?_) rfl (by kernel_rfl) (by kernel_rfl) (by kernel_rfl) (fun _ _ _ h => h) (Or.inl ⟨by rfl, ?_⟩) hHeld ?_
  rotate_left
  · intro W hSw
    (try dsimp only at hSw)
    go_simp
    (try with_reducible rfl)
  (try simp only [Act.put, List.setIfInBounds_toArray, List.set_cons_zero, List.set_cons_succ])
  refine wpAnyH_take (i := 11) (oi := { dst := some 18, op := Go.Op.load 42 (Go.Operand.tmp 17), type := 42, pos := "waiting.go:89", after := #[{ on := 10, ground := Go.Ground.data }], guard := none }) (v := ?_) rfl (by kernel_rfl) (by kernel_rfl) (by kernel_rfl) (fun _ _ _ h => h) (Or.inl ⟨by rfl, ?_⟩) hHeld ?_
  rotate_left
  · intro W hSw
    (try dsimp only at hSw)
    go_simp
    (try with_reducible rfl)
  (try simp only [Act.put, List.setIfInBounds_toArray, List.set_cons_zero, List.set_cons_succ])
  refine wpAnyH_take (i := 12) (oi := { dst := some 19, op := Go.Op.build 51 #[(0, Go.Operand.const (Go.Value.int Go.IntKind.i64 1)), (1, Go.Operand.tmp 7), (2, Go.Operand.tmp 8), (8, Go.Operand.tmp 13), (10, Go.Operand.tmp 18)], type := 51, pos := "waiting.go:89", after := #[{ on := 0, ground := Go.Ground.data }, { on := 1, ground := Go.Ground.data }, { on := 6, ground := Go.Ground.data }, { on := 11, ground := Go.Ground.data }], guard := none }) (v := .agg MM.toArray) rfl (by kernel_rfl) (by kernel_rfl) (by kernel_rfl) (fun _ _ _ h => h) (yieldsIf_build (by rfl) 51 _ rfl MM.toArray (by rw [hMM.out]; kernel_rfl)) hHeld ?_
  (try simp only [Act.put, List.setIfInBounds_toArray, List.set_cons_zero, List.set_cons_succ])
  refine wpAnyH_ready (rs := [13]) (by kernel_rfl) (by simp) ?_
  refine AllReadyH.cons (o := { dst := none, op := Go.Op.store 51 (Go.Operand.tmp 6) (Go.Operand.tmp 19), type := 0, pos := "waiting.go:89", after := #[{ on := 12, ground := Go.Ground.data }, { on := 0, ground := Go.Ground.phase }, { on := 1, ground := Go.Ground.phase }, { on := 2, ground := Go.Ground.phase }, { on := 3, ground := Go.Ground.phase }, { on := 4, ground := Go.Ground.phase }, { on := 5, ground := Go.Ground.phase }, { on := 6, ground := Go.Ground.phase }, { on := 7, ground := Go.Ground.phase }, { on := 8, ground := Go.Ground.phase }, { on := 9, ground := Go.Ground.phase }, { on := 10, ground := Go.Ground.phase }, { on := 11, ground := Go.Ground.phase }, { on := 12, ground := Go.Ground.phase }], guard := none }) rfl (fun K hK => ?_) AllReadyH.nil
  rw [if_pos (by rfl)]
  refine wp_store_row 51 _ _ rfl G MM.toArray rfl rfl 51 _ hg2.out I41.out Z41.out O41.out ?_
  refine hK.out _ _ p1.out (fun hHeld => ?_)
  clear hK K
  (try simp only [Act.put])
  refine wpAnyH_done (by kernel_rfl) ?_ _
  clear hHeld
  clear p0 p1 hg2
  generalize w1.drew.setRow G MM.toArray = w2 at A3 ⊢
  go_wp2
  refine bodyPost_ret (v := .agg MM.toArray) (results_cell_row (fn := Tryz.f78) rfl _ _ G 51 MM.toArray (0, 0) _ rfl A3.out.1.2.1 Tryz.underlying51 rfl I41.out) rfl ?_
  exact ⟨rfl, A3.out.into (by simp)⟩

set_option maxHeartbeats 1600000 in
set_option maxRecDepth 1000000 in
theorem msgQ {P : Nat} {x : Px} {b m n1 n2 : Int} {cs : List Comp} {w : World} (h : All (pxL P x b m n1 n2 ++ cs) w) (f t : Int) : Calls Tryz.prog 79 #[.pointer (some ⟨P, 13, none⟩), .int .i64 f, .int .i64 t] w fun e w' => e = .returned (.agg (asM f t x.least x.qu).cells.toArray) ∧ Below w.heap.size w w' := by
  obtain ⟨G, hG⟩ : ∃ G, Hid (G = w.heap.size) := ⟨_, hid rfl⟩
  have A1 : Hid (All (blkC G zM.cells 51 :: inC w :: []) (w.alloc (.cells zM.cells.toArray 51))) := hid (by rw [hG.out]; exact (All.came w).addBlk zM.cells 51)
  have SF : Hid (∀ W, Below w.heap.size w W → (fun W => W.cell? ⟨P, 13, none⟩ = some (.int .i64 x.qu.num) ∧ W.cell? ⟨P, 15, none⟩ = some (.int .i64 x.qu.ok) ∧ W.cell? ⟨P, 16, none⟩ = some (.string x.qu.onm) ∧ W.cell? ⟨P, 17, none⟩ = some (.string x.qu.otx) ∧ W.cell? ⟨P, 18, none⟩ = some (.int .i64 x.qu.on) ∧ W.cell? ⟨P, 19, none⟩ = some (.int .i64 x.qu.om) ∧ W.cell? ⟨P, 23, none⟩ = some (.int .i64 x.least)) W) := hid (fun W hW => ⟨cell_under hW (h.1.2.2 P (by simp [blkC])) (by rw [cell_at h.px]; rfl), cell_under hW (h.1.2.2 P (by simp [blkC])) (by rw [cell_at h.px]; rfl), cell_under hW (h.1.2.2 P (by simp [blkC])) (by rw [cell_at h.px]; rfl), cell_under hW (h.1.2.2 P (by simp [blkC])) (by rw [cell_at h.px]; rfl), cell_under hW (h.1.2.2 P (by simp [blkC])) (by rw [cell_at h.px]; rfl), cell_under hW (h.1.2.2 P (by simp [blkC])) (by rw [cell_at h.px]; rfl), cell_under hW (h.1.2.2 P (by simp [blkC])) (by rw [cell_at h.px]; rfl)⟩)
  have eZ : Hid (zM.cells.toArray = #[.int .i64 0, .int .i64 0, .int .i64 0, .int .i64 0, .int .i64 0, .int .i64 0, .int .i64 0, .int .i64 0, .int .i64 0, .bool false, .int .i64 0, .string ⟨#[]⟩, .string ⟨#[]⟩, .int .i64 0, .int .i64 0, .int .i64 0, .int .i64 0, .slice none 0 0, .slice none 0 0, .int .i64 0, .int .i64 0, .slice none 0 0, .slice none 0 0]) := hid rfl
  have I41 := hid (info41 (asM f t x.least x.qu))
  have O41 := hid (one41 (asM f t x.least x.qu))
  have Z41 : Hid (zM.cells.toArray.size = (asM f t x.least x.qu).cells.toArray.size) := hid rfl
  obtain ⟨MM, hMM⟩ : ∃ MM, Hid (MM = (asM f t x.least x.qu).cells) := ⟨_, hid rfl⟩
  rw [← hMM.out] at I41 O41 Z41 ⊢
  clear h
  go_enter Tryz.func79, Tryz.ntmps79
  go_upto_region 1 with fail
  rw [← eZ.out]
  simp only [← hG.out]
  generalize w.alloc (.cells zM.cells.toArray 51) = w1 at A1 ⊢
  have A2 := hid A1.out.drew
  have p0 := hid (SF.out _ (A2.out.into (by simp)))
  have A3 := hid (A2.out.setRow (vs' := MM))
  have hg2 : Hid (w1.drew.heap[G]? = some (.cells zM.cells.toArray 51 (0, 0))) := hid A2.out.1.2.1
  have p1 := hid (SF.out _ (A3.out.into (by simp)))
  refine wp_region_held_drew (S := (fun W => W.cell? ⟨P, 13, none⟩ = some (.int .i64 x.qu.num) ∧ W.cell? ⟨P, 15, none⟩ = some (.int .i64 x.qu.ok) ∧ W.cell? ⟨P, 16, none⟩ = some (.string x.qu.onm) ∧ W.cell? ⟨P, 17, none⟩ = some (.string x.qu.otx) ∧ W.cell? ⟨P, 18, none⟩ = some (.int .i64 x.qu.on) ∧ W.cell? ⟨P, 19, none⟩ = some (.int .i64 x.qu.om) ∧ W.cell? ⟨P, 23, none⟩ = some (.int .i64 x.least))) (by kernel_rfl) p0.out (fun hHeld => ?_)
  refine wpAnyH_take (i := 0) (oi := { dst := some 7, op := Go.Op.move (Go.Operand.tmp 1), type := 3, pos := "waiting.go:93", after := #[], guard := none }) (v := ?_) rfl (by kernel_rfl) (by kernel_rfl) (by kernel_rfl) (fun _ _ _ h => h) (Or.inl ⟨by rfl, ?_⟩) hHeld ?_
  rotate_left
  · intro W hSw
    (try dsimp only at hSw)
    go_simp
    (try with_reducible rfl)
  (try simp only [Act.put, List.setIfInBounds_toArray, List.set_cons_zero, List.set_cons_succ])
  refine wpAnyH_take (i := 1) (oi := { dst := some 8, op := Go.Op.move (Go.Operand.tmp 2), type := 3, pos := "waiting.go:93", after := #[], guard := none }) (v := ?_) rfl (by kernel_rfl) (by kernel_rfl) (by kernel_rfl) (fun _ _ _ h => h) (Or.inl ⟨by rfl, ?_⟩) hHeld ?_
  rotate_left
  · intro W hSw
    (try dsimp only at hSw)
    go_simp
    (try with_reducible rfl)
  (try simp only [Act.put, List.setIfInBounds_toArray, List.set_cons_zero, List.set_cons_succ])
  refine wpAnyH_take (i := 2) (oi := { dst := some 9, op := Go.Op.move (Go.Operand.tmp 0), type := 178, pos := "waiting.go:93", after := #[], guard := none }) (v := ?_) rfl (by kernel_rfl) (by kernel_rfl) (by kernel_rfl) (fun _ _ _ h => h) (Or.inl ⟨by rfl, ?_⟩) hHeld ?_
  rotate_left
  · intro W hSw
    (try dsimp only at hSw)
    go_simp
    (try with_reducible rfl)
  (try simp only [Act.put, List.setIfInBounds_toArray, List.set_cons_zero, List.set_cons_succ])
  refine wpAnyH_take (i := 3) (oi := { dst := some 10, op := Go.Op.nilCheck (Go.Operand.tmp 9), type := 0, pos := "waiting.go:93", after := #[{ on := 2, ground := Go.Ground.data }], guard := none }) (v := ?_) rfl (by kernel_rfl) (by kernel_rfl) (by kernel_rfl) (fun _ _ _ h => h) (Or.inl ⟨by rfl, ?_⟩) hHeld ?_
  rotate_left
  · intro W hSw
    (try dsimp only at hSw)
    go_simp
    (try with_reducible rfl)
  (try simp only [Act.put, List.setIfInBounds_toArray, List.set_cons_zero, List.set_cons_succ])
  refine wpAnyH_take (i := 4) (oi := { dst := some 11, op := Go.Op.fieldAddr 109 (Go.Operand.tmp 10) 0, type := 0, pos := "waiting.go:93", after := #[{ on := 3, ground := Go.Ground.data }], guard := none }) (v := ?_) rfl (by kernel_rfl) (by kernel_rfl) (by kernel_rfl) (fun _ _ _ h => h) (Or.inl ⟨by rfl, ?_⟩) hHeld ?_
  rotate_left
  · intro W hSw
    (try dsimp only at hSw)
    go_simp
    (try with_reducible rfl)
  (try simp only [Act.put, List.setIfInBounds_toArray, List.set_cons_zero, List.set_cons_succ])
  refine wpAnyH_take (i := 5) (oi := { dst := some 12, op := Go.Op.fieldAddr 104 (Go.Operand.tmp 11) 0, type := 0, pos := "waiting.go:93", after := #[{ on := 4, ground := Go.Ground.data }], guard := none }) (v := ?_) rfl (by kernel_rfl) (by kernel_rfl) (by kernel_rfl) (fun _ _ _ h => h) (Or.inl ⟨by rfl, ?_⟩) hHeld ?_
  rotate_left
  · intro W hSw
    (try dsimp only at hSw)
    go_simp
    (try with_reducible rfl)
  (try simp only [Act.put, List.setIfInBounds_toArray, List.set_cons_zero, List.set_cons_succ])
  refine wpAnyH_take (i := 6) (oi := { dst := some 13, op := Go.Op.load 3 (Go.Operand.tmp 12), type := 3, pos := "waiting.go:93", after := #[{ on := 5, ground := Go.Ground.data }], guard := none }) (v := ?_) rfl (by kernel_rfl) (by kernel_rfl) (by kernel_rfl) (fun _ _ _ h => h) (Or.inl ⟨by rfl, ?_⟩) hHeld ?_
  rotate_left
  · intro W hSw
    (try dsimp only at hSw)
    go_simp
    (try with_reducible rfl)
  (try simp only [Act.put, List.setIfInBounds_toArray, List.set_cons_zero, List.set_cons_succ])
  refine wpAnyH_take (i := 7) (oi := { dst := some 14, op := Go.Op.move (Go.Operand.tmp 0), type := 178, pos := "waiting.go:93", after := #[], guard := none }) (v := ?_) rfl (by kernel_rfl) (by kernel_rfl) (by kernel_rfl) (fun _ _ _ h => h) (Or.inl ⟨by rfl, ?_⟩) hHeld ?_
  rotate_left
  · intro W hSw
    (try dsimp only at hSw)
    go_simp
    (try with_reducible rfl)
  (try simp only [Act.put, List.setIfInBounds_toArray, List.set_cons_zero, List.set_cons_succ])
  refine wpAnyH_take (i := 8) (oi := { dst := some 15, op := Go.Op.nilCheck (Go.Operand.tmp 14), type := 0, pos := "waiting.go:93", after := #[{ on := 7, ground := Go.Ground.data }], guard := none }) (v := ?_) rfl (by kernel_rfl) (by kernel_rfl) (by kernel_rfl) (fun _ _ _ h => h) (Or.inl ⟨by rfl, ?_⟩) hHeld ?_
  rotate_left
  · intro W hSw
    (try dsimp only at hSw)
    go_simp
    (try with_reducible rfl)
  (try simp only [Act.put, List.setIfInBounds_toArray, List.set_cons_zero, List.set_cons_succ])
  refine wpAnyH_take (i := 9) (oi := { dst := some 16, op := Go.Op.fieldAddr 109 (Go.Operand.tmp 15) 2, type := 0, pos := "waiting.go:93", after := #[{ on := 8, ground := Go.Ground.data }], guard := none }) (v := ?_) rfl (by kernel_rfl) (by kernel_rfl) (by kernel_rfl) (fun _ _ _ h => h) (Or.inl ⟨by rfl, ?_⟩) hHeld ?_
  rotate_left
  · intro W hSw
    (try dsimp only at hSw)
    go_simp
    (try with_reducible rfl)
  (try simp only [Act.put, List.setIfInBounds_toArray, List.set_cons_zero, List.set_cons_succ])
  refine wpAnyH_take (i := 10) (oi := { dst := some 17, op := Go.Op.load 3 (Go.Operand.tmp 16), type := 3, pos := "waiting.go:93", after := #[{ on := 9, ground := Go.Ground.data }], guard := none }) (v := ?_) rfl (by kernel_rfl) (by kernel_rfl) (by kernel_rfl) (fun _ _ _ h => h) (Or.inl ⟨by rfl, ?_⟩) hHeld ?_
  rotate_left
  · intro W hSw
    (try dsimp only at hSw)
    go_simp
    (try with_reducible rfl)
  (try simp only [Act.put, List.setIfInBounds_toArray, List.set_cons_zero, List.set_cons_succ])
  refine wpAnyH_take (i := 11) (oi := { dst := some 18, op := Go.Op.move (Go.Operand.tmp 0), type := 178, pos := "waiting.go:93", after := #[], guard := none }) (v := ?_) rfl (by kernel_rfl) (by kernel_rfl) (by kernel_rfl) (fun _ _ _ h => h) (Or.inl ⟨by rfl, ?_⟩) hHeld ?_
  rotate_left
  · intro W hSw
    (try dsimp only at hSw)
    go_simp
    (try with_reducible rfl)
  (try simp only [Act.put, List.setIfInBounds_toArray, List.set_cons_zero, List.set_cons_succ])
  refine wpAnyH_take (i := 12) (oi := { dst := some 19, op := Go.Op.nilCheck (Go.Operand.tmp 18), type := 0, pos := "waiting.go:93", after := #[{ on := 11, ground := Go.Ground.data }], guard := none }) (v := ?_) rfl (by kernel_rfl) (by kernel_rfl) (by kernel_rfl) (fun _ _ _ h => h) (Or.inl ⟨by rfl, ?_⟩) hHeld ?_
  rotate_left
  · intro W hSw
    (try dsimp only at hSw)
    go_simp
    (try with_reducible rfl)
  (try simp only [Act.put, List.setIfInBounds_toArray, List.set_cons_zero, List.set_cons_succ])
  refine wpAnyH_take (i := 13) (oi := { dst := some 20, op := Go.Op.fieldAddr 109 (Go.Operand.tmp 19) 0, type := 0, pos := "waiting.go:93", after := #[{ on := 12, ground := Go.Ground.data }], guard := none }) (v := ?_) rfl (by kernel_rfl) (by kernel_rfl) (by kernel_rfl) (fun _ _ _ h => h) (Or.inl ⟨by rfl, ?_⟩) hHeld ?_
  rotate_left
  · intro W hSw
    (try dsimp only at hSw)
    go_simp
    (try with_reducible rfl)
  (try simp only [Act.put, List.setIfInBounds_toArray, List.set_cons_zero, List.set_cons_succ])
  refine wpAnyH_take (i := 14) (oi := { dst := some 21, op := Go.Op.fieldAddr 104 (Go.Operand.tmp 20) 2, type := 0, pos := "waiting.go:93", after := #[{ on := 13, ground := Go.Ground.data }], guard := none }) (v := ?_) rfl (by kernel_rfl) (by kernel_rfl) (by kernel_rfl) (fun _ _ _ h => h) (Or.inl ⟨by rfl, ?_⟩) hHeld ?_
  rotate_left
  · intro W hSw
    (try dsimp only at hSw)
    go_simp
    (try with_reducible rfl)
  (try simp only [Act.put, List.setIfInBounds_toArray, List.set_cons_zero, List.set_cons_succ])
  refine wpAnyH_take (i := 15) (oi := { dst := some 22, op := Go.Op.load 42 (Go.Operand.tmp 21), type := 42, pos := "waiting.go:93", after := #[{ on := 14, ground := Go.Ground.data }], guard := none }) (v := ?_) rfl (by kernel_rfl) (by kernel_rfl) (by kernel_rfl) (fun _ _ _ h => h) (Or.inl ⟨by rfl, ?_⟩) hHeld ?_
  rotate_left
  · intro W hSw
    (try dsimp only at hSw)
    go_simp
    (try with_reducible rfl)
  (try simp only [Act.put, List.setIfInBounds_toArray, List.set_cons_zero, List.set_cons_succ])
  refine wpAnyH_take (i := 16) (oi := { dst := some 23, op := Go.Op.build 51 #[(0, Go.Operand.const (Go.Value.int Go.IntKind.i64 14)), (1, Go.Operand.tmp 7), (2, Go.Operand.tmp 8), (8, Go.Operand.tmp 13), (4, Go.Operand.tmp 17), (10, Go.Operand.tmp 22)], type := 51, pos := "waiting.go:93", after := #[{ on := 0, ground := Go.Ground.data }, { on := 1, ground := Go.Ground.data }, { on := 6, ground := Go.Ground.data }, { on := 10, ground := Go.Ground.data }, { on := 15, ground := Go.Ground.data }], guard := none }) (v := .agg MM.toArray) rfl (by kernel_rfl) (by kernel_rfl) (by kernel_rfl) (fun _ _ _ h => h) (yieldsIf_build (by rfl) 51 _ rfl MM.toArray (by rw [hMM.out]; kernel_rfl)) hHeld ?_
  (try simp only [Act.put, List.setIfInBounds_toArray, List.set_cons_zero, List.set_cons_succ])
  refine wpAnyH_ready (rs := [17]) (by kernel_rfl) (by simp) ?_
  refine AllReadyH.cons (o := { dst := none, op := Go.Op.store 51 (Go.Operand.tmp 6) (Go.Operand.tmp 23), type := 0, pos := "waiting.go:93", after := #[{ on := 16, ground := Go.Ground.data }, { on := 0, ground := Go.Ground.phase }, { on := 1, ground := Go.Ground.phase }, { on := 2, ground := Go.Ground.phase }, { on := 3, ground := Go.Ground.phase }, { on := 4, ground := Go.Ground.phase }, { on := 5, ground := Go.Ground.phase }, { on := 6, ground := Go.Ground.phase }, { on := 7, ground := Go.Ground.phase }, { on := 8, ground := Go.Ground.phase }, { on := 9, ground := Go.Ground.phase }, { on := 10, ground := Go.Ground.phase }, { on := 11, ground := Go.Ground.phase }, { on := 12, ground := Go.Ground.phase }, { on := 13, ground := Go.Ground.phase }, { on := 14, ground := Go.Ground.phase }, { on := 15, ground := Go.Ground.phase }, { on := 16, ground := Go.Ground.phase }], guard := none }) rfl (fun K hK => ?_) AllReadyH.nil
  rw [if_pos (by rfl)]
  refine wp_store_row 51 _ _ rfl G MM.toArray rfl rfl 51 _ hg2.out I41.out Z41.out O41.out ?_
  refine hK.out _ _ p1.out (fun hHeld => ?_)
  clear hK K
  (try simp only [Act.put])
  refine wpAnyH_done (by kernel_rfl) ?_ _
  clear hHeld
  clear p0 p1 hg2
  generalize w1.drew.setRow G MM.toArray = w2 at A3 ⊢
  go_wp2
  refine bodyPost_ret (v := .agg MM.toArray) (results_cell_row (fn := Tryz.f79) rfl _ _ G 51 MM.toArray (0, 0) _ rfl A3.out.1.2.1 Tryz.underlying51 rfl I41.out) rfl ?_
  exact ⟨rfl, A3.out.into (by simp)⟩
end Go.Proofs.YtdhkdniddjnigaaGreatDoor

namespace Go.Proofs.YtdhkdniddjnigaaGreatDoor
open Go.RowKit
set_option linter.unusedVariables false

theorem opCells {W : World} {H : Nat} {k : Int} {nm tx : ByteArray} {a d : Int} (h : W.heap[H]? = some (.cells [.int .i64 k, .string nm, .string tx, .int .i64 a, .int .i64 d].toArray 42 (0, 0))) : W.cell? ⟨H, 0, none⟩ = some (.int .i64 k) ∧ W.cell? ⟨H, 1, none⟩ = some (.string nm) ∧ W.cell? ⟨H, 2, none⟩ = some (.string tx) ∧ W.cell? ⟨H, 3, none⟩ = some (.int .i64 a) ∧ W.cell? ⟨H, 4, none⟩ = some (.int .i64 d) :=
  ⟨by rw [cell_at h]; rfl, by rw [cell_at h]; rfl, by rw [cell_at h]; rfl, by rw [cell_at h]; rfl, by rw [cell_at h]; rfl⟩
set_option maxRecDepth 1000000 in
/-- Submit of an op that may not be. -/
theorem submit_bad {P : Nat} {x : Px} {b m n1 n2 : Int} {cs : List Comp} {w w0 : World} (h : All (pxL P x b m n1 n2 ++ cs) w) (hT : Tab w0) (hin : inC w0 ∈ cs) (k : Int) (nm tx : ByteArray) (a d : Int) (hc : chkA k nm.size tx.size a d ≠ 0) : Calls Tryz.prog 191 #[.pointer (some ⟨P, 0, none⟩), opV k nm tx a d] w fun e w' => e = .returned (.tuple #[.slice none 0 0, .int .i64 (chkA k nm.size tx.size a d)]) ∧ All (pxL P x b m n1 n2 ++ cs) w' := by
  have A1 := hid (h.alloc (.cells #[.int .i64 k, .string nm, .string tx, .int .i64 a, .int .i64 d] 42))
  have C := hid (check_any (hT.below (A1.out.into (List.mem_append_right _ hin))) k nm tx a d)
  generalize chkA k nm.size tx.size a d = E at hc C ⊢
  have e1 : (E != 0) = true := by simpa using hc
  clear h hT hin hc
  go_enter Tryz.func191, Tryz.ntmps191
  go_wp2_with fail
  refine C.out.mono ?_
  rintro e w1 ⟨rfl, BB⟩
  have A2 := hid (A1.out.later BB)
  clear BB C A1
  go_wp2
  go_ret2
  exact ⟨rfl, A2.out⟩
set_option maxHeartbeats 1600000 in
set_option maxRecDepth 1000000 in
/-- Submit where the request can't begin. -/
theorem submit_no {P : Nat} {x : Px} {b m n1 n2 : Int} {cs : List Comp} {w w0 : World} (h : All (pxL P x b m n1 n2 ++ cs) w) (hT : Tab w0) (hin : inC w0 ∈ cs) (k : Int) (nm tx : ByteArray) (a d : Int) (hc : chkA k nm.size tx.size a d = 0) {E : Int} (hE : E ≠ 0) (hC : ∀ W cs', All (pxL P x b m n1 n2 ++ cs') W → Calls Tryz.prog 212 #[.pointer (some ⟨P, 4, none⟩), opV k nm tx a d] W fun e w' => e = .returned (.int .i64 E) ∧ All (pxL P x b m n1 n2 ++ cs') w') : Calls Tryz.prog 191 #[.pointer (some ⟨P, 0, none⟩), opV k nm tx a d] w fun e w' => e = .returned (.tuple #[.slice none 0 0, .int .i64 E]) ∧ All (pxL P x b m n1 n2 ++ cs) w' := by
  obtain ⟨H, hH⟩ : ∃ H, Hid (H = w.heap.size) := ⟨_, hid rfl⟩
  have A1 := hid (h.addBlk [.int .i64 k, .string nm, .string tx, .int .i64 a, .int .i64 d] 42)
  rw [← hH.out] at A1
  have A1 := hid (A1.out.perm (List.perm_middle (l₁ := pxL P x b m n1 n2)).symm)
  have C : Hid (Calls Tryz.prog 169 #[opV k nm tx a d] (w.alloc (.cells #[.int .i64 k, .string nm, .string tx, .int .i64 a, .int .i64 d] 42)) fun e w' => e = .returned (.int .i64 0) ∧ Below (w.alloc (.cells #[.int .i64 k, .string nm, .string tx, .int .i64 a, .int .i64 d] 42)).heap.size (w.alloc (.cells #[.int .i64 k, .string nm, .string tx, .int .i64 a, .int .i64 d] 42)) w') := hid (by
    have := check_any (hT.below (A1.out.into (List.mem_append_right _ (List.mem_cons_of_mem _ hin)))) k nm tx a d
    rw [hc] at this
    exact this)
  have HC := hid hC
  have e1 : (E != 0) = true := by simpa using hE
  clear h hT hin hc hC hE
  go_enter Tryz.func191, Tryz.ntmps191
  go_wp2_with fail
  refine C.out.mono ?_
  rintro e w1 ⟨rfl, BB⟩
  have A2 : Hid (All (pxL P x b m n1 n2 ++ (blkC H [.int .i64 k, .string nm, .string tx, .int .i64 a, .int .i64 d] 42 :: cs)) w1) := hid (A1.out.later BB)
  simp only [← hH.out]
  clear BB C A1
  have SF : Hid (∀ W, All (pxL P x b m n1 n2 ++ (blkC H [.int .i64 k, .string nm, .string tx, .int .i64 a, .int .i64 d] 42 :: cs)) W → W.cell? ⟨H, 0, none⟩ = some (.int .i64 k) ∧ W.cell? ⟨H, 1, none⟩ = some (.string nm) ∧ W.cell? ⟨H, 2, none⟩ = some (.string tx) ∧ W.cell? ⟨H, 3, none⟩ = some (.int .i64 a) ∧ W.cell? ⟨H, 4, none⟩ = some (.int .i64 d)) := hid (fun W hW => opCells (hW.blk (by simp)))
  go_upto_region 4 with fail
  have A3 := hid A2.out.drew
  have p0 := hid (SF.out _ A3.out)
  go_region_held3 (fun W => W.cell? ⟨H, 0, none⟩ = some (.int .i64 k) ∧ W.cell? ⟨H, 1, none⟩ = some (.string nm) ∧ W.cell? ⟨H, 2, none⟩ = some (.string tx) ∧ W.cell? ⟨H, 3, none⟩ = some (.int .i64 a) ∧ W.cell? ⟨H, 4, none⟩ = some (.int .i64 d)) (first | with_reducible exact p0.out | with_reducible exact p1.out)
    (first
      | (go_at_call 212; refine (HC.out _ _ A3.out).mono ?_; rintro e w2 ⟨rfl, hw2⟩; have A4 := hid hw2; have p1 := hid (SF.out _ A4.out); clear hw2))
  clear p0 p1 A3 A2
  go_wp2
  go_ret2
  exact ⟨rfl, (A4.out.perm (List.perm_middle (l₁ := pxL P x b m n1 n2))).tail⟩
end Go.Proofs.YtdhkdniddjnigaaGreatDoor

namespace Go.Proofs.YtdhkdniddjnigaaGreatDoor
open Go.RowKit
set_option linter.unusedVariables false

theorem Tryz.inf41 : (Tryz.prog.info? 51).map (fun i => (i.zero, i.size, i.bytes)) = some (some (.agg zM.cells.toArray), 23, 264) := by kernel_rfl
theorem fill_of {F : Nat → Option (Nat × Nat)} {Z : Array Value} {L L' : List (Nat × Value)} {C : Array Value} (h : Instr.fill F Z L = some C) (e : L' = L) : Instr.fill F Z L' = some C := e ▸ h
/-- A list of one message, laid. -/
structure Bs (ie : TypeInfo) (z : Value) (C : Array Value) : Prop where
  i : Tryz.prog.info? 51 = some ie
  o : ie.zero = some z
  s : ¬ 1 * ie.size > 2 ^ 24
  p : ¬ 1 * ie.size = 0
  f : Instr.fill (fun i => some (i * ie.size, ie.size)) ((Array.range (1 * ie.size)).map (z.cells[· % z.cells.size]!)) [(0, .agg C)] = some C
theorem und49 : Tryz.prog.underlying 59 = some (.slice 51) := by kernel_rfl
theorem bs41 (m : Ms) : ∃ ie z, Bs ie z m.cells.toArray := by
  obtain ⟨i1, hi1, hz0, hz1, hz2⟩ := info_parts Tryz.inf41
  refine ⟨i1, _, hi1, hz0, by rw [hz1]; decide, by rw [hz1]; decide, ?_⟩
  rw [hz1]
  kernel_rfl
/-- The state behind a request that began. -/
def Px.sub (x : Px) (k : Int) (nm tx : ByteArray) (a d n1 : Int) : Px := { x with rq := { x.rq with num := x.rq.num + 1, wts := true, ok := k, onm := nm, otx := tx, on := a, om := d, left := n1 } }

set_option maxHeartbeats 1600000 in
set_option maxRecDepth 1000000 in
/-- Submit of an op that may be, where nothing waits. -/
theorem submit_ok {P : Nat} {x : Px} {b m n1 n2 : Int} {cs : List Comp} {w w0 : World} (h : All (pxL P x b m n1 n2 ++ cs) w) (hT : Tab w0) (hin : inC w0 ∈ cs) (k : Int) (nm tx : ByteArray) (a d : Int) (hc : chkA k nm.size tx.size a d = 0) (hw : x.rq.wts = false) (hn : 0 ≤ x.rq.num) (hn2 : x.rq.num < 1099511627776) (h1 : 1 ≤ n1) (h2 : n1 ≤ m) (h3 : m ≤ 1024) (hN : x.n = 3 ∨ x.n = 5 ∨ x.n = 7) (hv : 0 ≤ x.view) :
    Calls Tryz.prog 191 #[.pointer (some ⟨P, 0, none⟩), opV k nm tx a d] w fun e w' => ∃ G, e = .returned (.tuple #[.slice (some ⟨G, 0, none⟩) 1 1, .int .i64 0]) ∧ All (blkC G (rqM x.id (x.view.tmod x.n) (x.sub k nm tx a d n1).rq).cells 51 :: (pxL P (x.sub k nm tx a d n1) b m (min (2 * n1) m) n2 ++ cs)) w' := by
  obtain ⟨H, hH⟩ : ∃ H, Hid (H = w.heap.size) := ⟨_, hid rfl⟩
  have A1 := hid (h.addBlk [.int .i64 k, .string nm, .string tx, .int .i64 a, .int .i64 d] 42)
  rw [← hH.out] at A1
  have A1 := hid (A1.out.perm (List.perm_middle (l₁ := pxL P x b m n1 n2)).symm)
  have C : Hid (Calls Tryz.prog 169 #[opV k nm tx a d] (w.alloc (.cells #[.int .i64 k, .string nm, .string tx, .int .i64 a, .int .i64 d] 42)) fun e w' => e = .returned (.int .i64 0) ∧ Below (w.alloc (.cells #[.int .i64 k, .string nm, .string tx, .int .i64 a, .int .i64 d] 42)).heap.size (w.alloc (.cells #[.int .i64 k, .string nm, .string tx, .int .i64 a, .int .i64 d] 42)) w') := hid (by
    have := check_any (hT.below (A1.out.into (List.mem_append_right _ (List.mem_cons_of_mem _ hin)))) k nm tx a d
    rw [hc] at this
    exact this)
  have HC : Hid (∀ W cs', All (pxL P x b m n1 n2 ++ cs') W → Calls Tryz.prog 212 #[.pointer (some ⟨P, 4, none⟩), opV k nm tx a d] W fun e w' => e = .returned (.int .i64 0) ∧ All (pxL P (x.sub k nm tx a d n1) b m (min (2 * n1) m) n2 ++ cs') w') := hid (fun W cs' hW => begR_ok hW hw hn hn2 h1 h2 h3 k nm tx a d)
  have C26 : Hid (∀ W : World, Calls Tryz.prog 213 #[.int .i64 x.n, .int .i64 x.view] W fun e w' => e = .returned (.int .i64 (x.view.tmod x.n)) ∧ w' = W) := hid (fun W => primary_any x.n x.view hN hv)
  obtain ⟨to', hto⟩ : ∃ t, Hid (t = x.view.tmod x.n) := ⟨_, hid rfl⟩
  rw [← hto.out] at C26 ⊢
  have C25 : Hid (∀ W, All (pxL P (x.sub k nm tx a d n1) b m (min (2 * n1) m) n2 ++ (blkC H [.int .i64 k, .string nm, .string tx, .int .i64 a, .int .i64 d] 42 :: cs)) W → Calls Tryz.prog 78 #[.pointer (some ⟨P, 4, none⟩), .int .i64 x.id, .int .i64 to'] W fun e w' => e = .returned (.agg (rqM x.id to' (x.sub k nm tx a d n1).rq).cells.toArray) ∧ Below W.heap.size W w') := hid (fun W hW => msgR hW x.id to')
  obtain ⟨ie, z, bs⟩ := bs41 (rqM x.id to' (x.sub k nm tx a d n1).rq)
  have BS := hid bs
  obtain ⟨MM, hMM⟩ : ∃ MM, Hid (MM = (rqM x.id to' (x.sub k nm tx a d n1).rq).cells) := ⟨_, hid rfl⟩
  rw [← hMM.out] at BS C25 ⊢
  have SG : Hid (∀ W cs', All (pxL P (x.sub k nm tx a d n1) b m (min (2 * n1) m) n2 ++ cs') W → (fun W => W.cell? ⟨P, 0, none⟩ = some (.int .i64 x.n) ∧ W.cell? ⟨P, 1, none⟩ = some (.int .i64 x.id) ∧ W.cell? ⟨P, 2, none⟩ = some (.int .i64 x.view)) W) := hid (fun W cs' hW => ⟨by rw [cell_at hW.px]; rfl, by rw [cell_at hW.px]; rfl, by rw [cell_at hW.px]; rfl⟩)
  have SG : Hid (∀ W, All (pxL P (x.sub k nm tx a d n1) b m (min (2 * n1) m) n2 ++ (blkC H [.int .i64 k, .string nm, .string tx, .int .i64 a, .int .i64 d] 42 :: cs)) W → (fun W => W.cell? ⟨P, 0, none⟩ = some (.int .i64 x.n) ∧ W.cell? ⟨P, 1, none⟩ = some (.int .i64 x.id) ∧ W.cell? ⟨P, 2, none⟩ = some (.int .i64 x.view)) W) := hid (fun W hW => SG.out W _ hW)
  clear h hT hin hc hw hn hn2 h1 h2 h3 hN hv bs
  go_enter Tryz.func191, Tryz.ntmps191
  go_wp2_with fail
  refine C.out.mono ?_
  rintro e w1 ⟨rfl, BB⟩
  have A2 : Hid (All (pxL P x b m n1 n2 ++ (blkC H [.int .i64 k, .string nm, .string tx, .int .i64 a, .int .i64 d] 42 :: cs)) w1) := hid (A1.out.later BB)
  simp only [← hH.out]
  clear BB C A1
  have SF : Hid (∀ W y p q, All (pxL P y b m p q ++ (blkC H [.int .i64 k, .string nm, .string tx, .int .i64 a, .int .i64 d] 42 :: cs)) W → W.cell? ⟨H, 0, none⟩ = some (.int .i64 k) ∧ W.cell? ⟨H, 1, none⟩ = some (.string nm) ∧ W.cell? ⟨H, 2, none⟩ = some (.string tx) ∧ W.cell? ⟨H, 3, none⟩ = some (.int .i64 a) ∧ W.cell? ⟨H, 4, none⟩ = some (.int .i64 d)) := hid (fun W y p q hW => opCells (hW.blk (by simp)))
  go_upto_region 4 with fail
  have A3 := hid A2.out.drew
  have p0 := hid (SF.out _ _ _ _ A3.out)
  go_region_held3 (fun W => W.cell? ⟨H, 0, none⟩ = some (.int .i64 k) ∧ W.cell? ⟨H, 1, none⟩ = some (.string nm) ∧ W.cell? ⟨H, 2, none⟩ = some (.string tx) ∧ W.cell? ⟨H, 3, none⟩ = some (.int .i64 a) ∧ W.cell? ⟨H, 4, none⟩ = some (.int .i64 d)) (first | with_reducible exact p0.out | with_reducible exact p1.out)
    (first
      | (go_at_call 212; refine (HC.out _ _ A3.out).mono ?_; rintro e w2 ⟨rfl, hw2⟩; have A4 := hid hw2; have p1 := hid (SF.out _ _ _ _ A4.out); clear hw2))
  clear p0 p1 A3 A2 SF HC
  go_upto_region 7 with fail
  have A4 := hid A4.out.drew
  have p0 := hid (SG.out _ A4.out)
  refine wp_region_held_drew (S := (fun W => W.cell? ⟨P, 0, none⟩ = some (.int .i64 x.n) ∧ W.cell? ⟨P, 1, none⟩ = some (.int .i64 x.id) ∧ W.cell? ⟨P, 2, none⟩ = some (.int .i64 x.view))) (by kernel_rfl) p0.out (fun hHeld => ?_)
  refine wpAnyH_take (i := 0) (oi := { dst := some 22, op := Go.Op.move (Go.Operand.tmp 0), type := 70, pos := "proxy.go:41", after := #[], guard := none }) (v := ?_) rfl (by kernel_rfl) (by kernel_rfl) (by kernel_rfl) (fun _ _ _ h => h) (Or.inl ⟨by rfl, ?_⟩) hHeld ?_
  rotate_left
  · intro W hSw
    (try dsimp only at hSw)
    go_simp
    (try with_reducible rfl)
  (try simp only [Act.put, List.setIfInBounds_toArray, List.set_cons_zero, List.set_cons_succ])
  refine wpAnyH_take (i := 1) (oi := { dst := some 23, op := Go.Op.nilCheck (Go.Operand.tmp 22), type := 0, pos := "proxy.go:41", after := #[{ on := 0, ground := Go.Ground.data }], guard := none }) (v := ?_) rfl (by kernel_rfl) (by kernel_rfl) (by kernel_rfl) (fun _ _ _ h => h) (Or.inl ⟨by rfl, ?_⟩) hHeld ?_
  rotate_left
  · intro W hSw
    (try dsimp only at hSw)
    go_simp
    (try with_reducible rfl)
  (try simp only [Act.put, List.setIfInBounds_toArray, List.set_cons_zero, List.set_cons_succ])
  refine wpAnyH_take (i := 2) (oi := { dst := some 24, op := Go.Op.fieldAddr 111 (Go.Operand.tmp 23) 4, type := 0, pos := "proxy.go:41", after := #[{ on := 1, ground := Go.Ground.data }], guard := none }) (v := ?_) rfl (by kernel_rfl) (by kernel_rfl) (by kernel_rfl) (fun _ _ _ h => h) (Or.inl ⟨by rfl, ?_⟩) hHeld ?_
  rotate_left
  · intro W hSw
    (try dsimp only at hSw)
    go_simp
    (try with_reducible rfl)
  (try simp only [Act.put, List.setIfInBounds_toArray, List.set_cons_zero, List.set_cons_succ])
  refine wpAnyH_take (i := 3) (oi := { dst := some 25, op := Go.Op.move (Go.Operand.tmp 0), type := 70, pos := "proxy.go:41", after := #[], guard := none }) (v := ?_) rfl (by kernel_rfl) (by kernel_rfl) (by kernel_rfl) (fun _ _ _ h => h) (Or.inl ⟨by rfl, ?_⟩) hHeld ?_
  rotate_left
  · intro W hSw
    (try dsimp only at hSw)
    go_simp
    (try with_reducible rfl)
  (try simp only [Act.put, List.setIfInBounds_toArray, List.set_cons_zero, List.set_cons_succ])
  refine wpAnyH_take (i := 4) (oi := { dst := some 26, op := Go.Op.nilCheck (Go.Operand.tmp 25), type := 0, pos := "proxy.go:41", after := #[{ on := 3, ground := Go.Ground.data }], guard := none }) (v := ?_) rfl (by kernel_rfl) (by kernel_rfl) (by kernel_rfl) (fun _ _ _ h => h) (Or.inl ⟨by rfl, ?_⟩) hHeld ?_
  rotate_left
  · intro W hSw
    (try dsimp only at hSw)
    go_simp
    (try with_reducible rfl)
  (try simp only [Act.put, List.setIfInBounds_toArray, List.set_cons_zero, List.set_cons_succ])
  refine wpAnyH_take (i := 5) (oi := { dst := some 27, op := Go.Op.fieldAddr 111 (Go.Operand.tmp 26) 1, type := 0, pos := "proxy.go:41", after := #[{ on := 4, ground := Go.Ground.data }], guard := none }) (v := ?_) rfl (by kernel_rfl) (by kernel_rfl) (by kernel_rfl) (fun _ _ _ h => h) (Or.inl ⟨by rfl, ?_⟩) hHeld ?_
  rotate_left
  · intro W hSw
    (try dsimp only at hSw)
    go_simp
    (try with_reducible rfl)
  (try simp only [Act.put, List.setIfInBounds_toArray, List.set_cons_zero, List.set_cons_succ])
  refine wpAnyH_take (i := 6) (oi := { dst := some 28, op := Go.Op.load 3 (Go.Operand.tmp 27), type := 3, pos := "proxy.go:41", after := #[{ on := 5, ground := Go.Ground.data }], guard := none }) (v := ?_) rfl (by kernel_rfl) (by kernel_rfl) (by kernel_rfl) (fun _ _ _ h => h) (Or.inl ⟨by rfl, ?_⟩) hHeld ?_
  rotate_left
  · intro W hSw
    (try dsimp only at hSw)
    go_simp
    (try with_reducible rfl)
  (try simp only [Act.put, List.setIfInBounds_toArray, List.set_cons_zero, List.set_cons_succ])
  refine wpAnyH_take (i := 7) (oi := { dst := some 29, op := Go.Op.move (Go.Operand.tmp 0), type := 70, pos := "proxy.go:41", after := #[], guard := none }) (v := ?_) rfl (by kernel_rfl) (by kernel_rfl) (by kernel_rfl) (fun _ _ _ h => h) (Or.inl ⟨by rfl, ?_⟩) hHeld ?_
  rotate_left
  · intro W hSw
    (try dsimp only at hSw)
    go_simp
    (try with_reducible rfl)
  (try simp only [Act.put, List.setIfInBounds_toArray, List.set_cons_zero, List.set_cons_succ])
  refine wpAnyH_take (i := 8) (oi := { dst := some 30, op := Go.Op.nilCheck (Go.Operand.tmp 29), type := 0, pos := "proxy.go:41", after := #[{ on := 7, ground := Go.Ground.data }], guard := none }) (v := ?_) rfl (by kernel_rfl) (by kernel_rfl) (by kernel_rfl) (fun _ _ _ h => h) (Or.inl ⟨by rfl, ?_⟩) hHeld ?_
  rotate_left
  · intro W hSw
    (try dsimp only at hSw)
    go_simp
    (try with_reducible rfl)
  (try simp only [Act.put, List.setIfInBounds_toArray, List.set_cons_zero, List.set_cons_succ])
  refine wpAnyH_take (i := 9) (oi := { dst := some 31, op := Go.Op.fieldAddr 111 (Go.Operand.tmp 30) 0, type := 0, pos := "proxy.go:41", after := #[{ on := 8, ground := Go.Ground.data }], guard := none }) (v := ?_) rfl (by kernel_rfl) (by kernel_rfl) (by kernel_rfl) (fun _ _ _ h => h) (Or.inl ⟨by rfl, ?_⟩) hHeld ?_
  rotate_left
  · intro W hSw
    (try dsimp only at hSw)
    go_simp
    (try with_reducible rfl)
  (try simp only [Act.put, List.setIfInBounds_toArray, List.set_cons_zero, List.set_cons_succ])
  refine wpAnyH_take (i := 10) (oi := { dst := some 32, op := Go.Op.load 3 (Go.Operand.tmp 31), type := 3, pos := "proxy.go:41", after := #[{ on := 9, ground := Go.Ground.data }], guard := none }) (v := ?_) rfl (by kernel_rfl) (by kernel_rfl) (by kernel_rfl) (fun _ _ _ h => h) (Or.inl ⟨by rfl, ?_⟩) hHeld ?_
  rotate_left
  · intro W hSw
    (try dsimp only at hSw)
    go_simp
    (try with_reducible rfl)
  (try simp only [Act.put, List.setIfInBounds_toArray, List.set_cons_zero, List.set_cons_succ])
  refine wpAnyH_take (i := 11) (oi := { dst := some 33, op := Go.Op.move (Go.Operand.tmp 0), type := 70, pos := "proxy.go:41", after := #[], guard := none }) (v := ?_) rfl (by kernel_rfl) (by kernel_rfl) (by kernel_rfl) (fun _ _ _ h => h) (Or.inl ⟨by rfl, ?_⟩) hHeld ?_
  rotate_left
  · intro W hSw
    (try dsimp only at hSw)
    go_simp
    (try with_reducible rfl)
  (try simp only [Act.put, List.setIfInBounds_toArray, List.set_cons_zero, List.set_cons_succ])
  refine wpAnyH_take (i := 12) (oi := { dst := some 34, op := Go.Op.nilCheck (Go.Operand.tmp 33), type := 0, pos := "proxy.go:41", after := #[{ on := 11, ground := Go.Ground.data }], guard := none }) (v := ?_) rfl (by kernel_rfl) (by kernel_rfl) (by kernel_rfl) (fun _ _ _ h => h) (Or.inl ⟨by rfl, ?_⟩) hHeld ?_
  rotate_left
  · intro W hSw
    (try dsimp only at hSw)
    go_simp
    (try with_reducible rfl)
  (try simp only [Act.put, List.setIfInBounds_toArray, List.set_cons_zero, List.set_cons_succ])
  refine wpAnyH_take (i := 13) (oi := { dst := some 35, op := Go.Op.fieldAddr 111 (Go.Operand.tmp 34) 2, type := 0, pos := "proxy.go:41", after := #[{ on := 12, ground := Go.Ground.data }], guard := none }) (v := ?_) rfl (by kernel_rfl) (by kernel_rfl) (by kernel_rfl) (fun _ _ _ h => h) (Or.inl ⟨by rfl, ?_⟩) hHeld ?_
  rotate_left
  · intro W hSw
    (try dsimp only at hSw)
    go_simp
    (try with_reducible rfl)
  (try simp only [Act.put, List.setIfInBounds_toArray, List.set_cons_zero, List.set_cons_succ])
  refine wpAnyH_take (i := 14) (oi := { dst := some 36, op := Go.Op.load 3 (Go.Operand.tmp 35), type := 3, pos := "proxy.go:41", after := #[{ on := 13, ground := Go.Ground.data }], guard := none }) (v := ?_) rfl (by kernel_rfl) (by kernel_rfl) (by kernel_rfl) (fun _ _ _ h => h) (Or.inl ⟨by rfl, ?_⟩) hHeld ?_
  rotate_left
  · intro W hSw
    (try dsimp only at hSw)
    go_simp
    (try with_reducible rfl)
  (try simp only [Act.put, List.setIfInBounds_toArray, List.set_cons_zero, List.set_cons_succ])
  refine wpAnyH_ready (rs := [15]) (by kernel_rfl) (by simp) ?_
  refine AllReadyH.cons (o := { dst := some 37, op := Go.Op.call { callee := Go.Callee.value (Go.Operand.func 213), args := #[Go.Operand.tmp 32, Go.Operand.tmp 36], argTypes := #[3, 3] }, type := 3, pos := "proxy.go:41", after := #[{ on := 10, ground := Go.Ground.data }, { on := 14, ground := Go.Ground.data }], guard := none }) rfl (fun K hK => ?_) AllReadyH.nil
  go_simp
  refine (C26.out _).mono ?_; rintro e w4 ⟨rfl, hw4⟩; have A5 : Hid (All (pxL P (x.sub k nm tx a d n1) b m (min (2 * n1) m) n2 ++ (blkC H [.int .i64 k, .string nm, .string tx, .int .i64 a, .int .i64 d] 42 :: cs)) w4) := hid (by rw [hw4]; exact A4.out); have p1 := hid (SG.out _ A5.out); clear hw4
  refine hK.out _ _ p1.out (fun hHeld => ?_)
  clear hK K
  (try simp only [Act.put, List.setIfInBounds_toArray, List.set_cons_zero, List.set_cons_succ])
  refine wpAnyH_ready (rs := [16]) (by kernel_rfl) (by simp) ?_
  refine AllReadyH.cons (o := { dst := some 38, op := Go.Op.call { callee := Go.Callee.value (Go.Operand.func 78), args := #[Go.Operand.tmp 24, Go.Operand.tmp 28, Go.Operand.tmp 37], argTypes := #[107, 3, 3] }, type := 51, pos := "proxy.go:41", after := #[{ on := 2, ground := Go.Ground.data }, { on := 6, ground := Go.Ground.data }, { on := 15, ground := Go.Ground.data }, { on := 15, ground := Go.Ground.chain }], guard := none }) rfl (fun K hK => ?_) AllReadyH.nil
  go_simp
  refine (C25.out _ A5.out).mono ?_; rintro e w5 ⟨rfl, hw5⟩; have A6 := hid (A5.out.later hw5); have p2 := hid (SG.out _ A6.out); clear hw5
  refine hK.out _ _ p2.out (fun hHeld => ?_)
  clear hK K
  (try simp only [Act.put, List.setIfInBounds_toArray, List.set_cons_zero, List.set_cons_succ])
  refine wpAnyH_ready (rs := [17]) (by kernel_rfl) (by simp) ?_
  refine AllReadyH.cons (o := { dst := some 39, op := Go.Op.buildSlice 59 1 #[(0, Go.Operand.tmp 38)], type := 59, pos := "proxy.go:41", after := #[{ on := 16, ground := Go.Ground.data }], guard := none }) rfl (fun K hK => ?_) AllReadyH.nil
  rw [if_pos (by rfl)]
  refine wp_buildSlice 59 51 1 _ rfl MM.toArray ie z und49 BS.out.i BS.out.o BS.out.s BS.out.p (fill_of BS.out.f (by kernel_rfl)) ?_; have A7 := hid (A6.out.addBlk MM 51); have p3 := hid (SG.out _ A7.out.tail)
  refine hK.out _ _ p3.out (fun hHeld => ?_)
  clear hK K
  (try simp only [Act.put, List.setIfInBounds_toArray, List.set_cons_zero, List.set_cons_succ])
  refine wpAnyH_take (i := 18) (oi := { dst := some 4, op := Go.Op.assign (Go.Operand.tmp 39), type := 59, pos := "proxy.go:41", after := #[{ on := 17, ground := Go.Ground.data }, { on := 16, ground := Go.Ground.chain }, { on := 0, ground := Go.Ground.phase }, { on := 1, ground := Go.Ground.phase }, { on := 2, ground := Go.Ground.phase }, { on := 3, ground := Go.Ground.phase }, { on := 4, ground := Go.Ground.phase }, { on := 5, ground := Go.Ground.phase }, { on := 6, ground := Go.Ground.phase }, { on := 7, ground := Go.Ground.phase }, { on := 8, ground := Go.Ground.phase }, { on := 9, ground := Go.Ground.phase }, { on := 10, ground := Go.Ground.phase }, { on := 11, ground := Go.Ground.phase }, { on := 12, ground := Go.Ground.phase }, { on := 13, ground := Go.Ground.phase }, { on := 14, ground := Go.Ground.phase }, { on := 15, ground := Go.Ground.phase }, { on := 16, ground := Go.Ground.phase }, { on := 17, ground := Go.Ground.phase }], guard := none }) (v := ?_) rfl (by kernel_rfl) (by kernel_rfl) (by kernel_rfl) (fun _ _ _ h => h) (Or.inl ⟨by rfl, ?_⟩) hHeld ?_
  rotate_left
  · intro W hSw
    (try dsimp only at hSw)
    go_simp
    (try with_reducible rfl)
  (try simp only [Act.put, List.setIfInBounds_toArray, List.set_cons_zero, List.set_cons_succ])
  refine wpAnyH_take (i := 19) (oi := { dst := some 5, op := Go.Op.assign (Go.Operand.const (Go.Value.int Go.IntKind.i64 0)), type := 35, pos := "proxy.go:41", after := #[{ on := 18, ground := Go.Ground.chain }, { on := 0, ground := Go.Ground.phase }, { on := 1, ground := Go.Ground.phase }, { on := 2, ground := Go.Ground.phase }, { on := 3, ground := Go.Ground.phase }, { on := 4, ground := Go.Ground.phase }, { on := 5, ground := Go.Ground.phase }, { on := 6, ground := Go.Ground.phase }, { on := 7, ground := Go.Ground.phase }, { on := 8, ground := Go.Ground.phase }, { on := 9, ground := Go.Ground.phase }, { on := 10, ground := Go.Ground.phase }, { on := 11, ground := Go.Ground.phase }, { on := 12, ground := Go.Ground.phase }, { on := 13, ground := Go.Ground.phase }, { on := 14, ground := Go.Ground.phase }, { on := 15, ground := Go.Ground.phase }, { on := 16, ground := Go.Ground.phase }, { on := 17, ground := Go.Ground.phase }, { on := 18, ground := Go.Ground.phase }], guard := none }) (v := ?_) rfl (by kernel_rfl) (by kernel_rfl) (by kernel_rfl) (fun _ _ _ h => h) (Or.inl ⟨by rfl, ?_⟩) hHeld ?_
  rotate_left
  · intro W hSw
    (try dsimp only at hSw)
    go_simp
    (try with_reducible rfl)
  (try simp only [Act.put, List.setIfInBounds_toArray, List.set_cons_zero, List.set_cons_succ])
  refine wpAnyH_done (by kernel_rfl) ?_ _
  clear hHeld
  clear p0 p1 p2 p3 SG C26 C25
  obtain ⟨G, hG⟩ : ∃ G, Hid (G = w5.heap.size) := ⟨_, hid rfl⟩
  rw [← hG.out] at A7
  simp only [← hG.out]
  generalize w5.alloc (.cells MM.toArray 51) = w6 at A7 ⊢
  go_wp2
  go_ret2
  exact ⟨G, rfl, (A7.out.perm (List.Perm.cons _ (List.perm_middle (l₁ := pxL P (x.sub k nm tx a d n1) b m (min (2 * n1) m) n2)))).swap.tail⟩
end Go.Proofs.YtdhkdniddjnigaaGreatDoor

namespace Go.Proofs.YtdhkdniddjnigaaGreatDoor
open Go.RowKit
set_option linter.unusedVariables false

theorem b2' {w w1 w2 : World} (h : Below w.heap.size w w1) (k : Below w1.heap.size w1 w2) : Below w.heap.size w w2 := h.trans (k.mono h.size)
/-- Where nothing has waited yet. -/
def wt0 (p : Nat) : Wt := ⟨0, false, 0, ⟨#[]⟩, ⟨#[]⟩, 0, 0, 0, p⟩
def Wt.cells (t : Wt) : List Value := [.int .i64 t.num, .bool t.wts, .int .i64 t.ok, .string t.onm, .string t.otx, .int .i64 t.on, .int .i64 t.om, .int .i64 t.left, .pointer (some ⟨t.pb, 0, none⟩)]
theorem info67 : (Tryz.prog.info? 104).map (·.size) = some 9 := by kernel_rfl
set_option maxHeartbeats 800000 in
set_option maxRecDepth 1000000 in
theorem idle_ok {cs : List Comp} {w : World} (h : All cs w) (a0 a1 a2 a3 a4 a5 a6 a7 a8 a9 : Int) (h1 : 1 ≤ a6) (h2 : a6 ≤ a5) (h3 : a5 ≤ 1024) : Calls Tryz.prog 39 #[cfgV a0 a1 a2 a3 a4 a5 a6 a7 a8 a9] w fun e w' => ∃ p, e = .returned (.agg (wt0 p).cells.toArray) ∧ All (boC p a6 a5 a6 :: cs) w' := by
  obtain ⟨G, hG⟩ : ∃ G, Hid (G = w.heap.size + 1) := ⟨_, hid rfl⟩
  have A1 : Hid (All (blkC G [.int .i64 0, .bool false, .int .i64 0, .string ⟨#[]⟩, .string ⟨#[]⟩, .int .i64 0, .int .i64 0, .int .i64 0, .pointer none] 104 :: cs) ((w.alloc (cfgB a0 a1 a2 a3 a4 a5 a6 a7 a8 a9)).alloc (.cells #[.int .i64 0, .bool false, .int .i64 0, .string ⟨#[]⟩, .string ⟨#[]⟩, .int .i64 0, .int .i64 0, .int .i64 0, .pointer none] 104))) := hid (by
    have := (h.alloc (cfgB a0 a1 a2 a3 a4 a5 a6 a7 a8 a9)).addBlk [.int .i64 0, .bool false, .int .i64 0, .string ⟨#[]⟩, .string ⟨#[]⟩, .int .i64 0, .int .i64 0, .int .i64 0, .pointer none] 104
    simp only [World.size_alloc] at this
    rw [hG.out]
    exact this)
  have C := hid (NewBackoff_ok (w := (w.alloc (cfgB a0 a1 a2 a3 a4 a5 a6 a7 a8 a9)).alloc (.cells #[.int .i64 0, .bool false, .int .i64 0, .string ⟨#[]⟩, .string ⟨#[]⟩, .int .i64 0, .int .i64 0, .int .i64 0, .pointer none] 104)) h1 h2 h3)
  have c6 : ((w.alloc (cfgB a0 a1 a2 a3 a4 a5 a6 a7 a8 a9)).alloc (.cells #[.int .i64 0, .bool false, .int .i64 0, .string ⟨#[]⟩, .string ⟨#[]⟩, .int .i64 0, .int .i64 0, .int .i64 0, .pointer none] 104)).cell? ⟨w.heap.size, 6, none⟩ = some (.int .i64 a6) := cell_under (ba _ _) (by simp) (by rw [cell_at (heap_alloc_new w _)]; rfl)
  have c5 : ((w.alloc (cfgB a0 a1 a2 a3 a4 a5 a6 a7 a8 a9)).alloc (.cells #[.int .i64 0, .bool false, .int .i64 0, .string ⟨#[]⟩, .string ⟨#[]⟩, .int .i64 0, .int .i64 0, .int .i64 0, .pointer none] 104)).cell? ⟨w.heap.size, 5, none⟩ = some (.int .i64 a5) := cell_under (ba _ _) (by simp) (by rw [cell_at (heap_alloc_new w _)]; rfl)
  have c6 := hid c6
  have c5 := hid c5
  clear h h1 h2 h3
  go_enter Tryz.func39, Tryz.ntmps39
  go_upto_region 1 with fail
  simp only [← hG.out]
  generalize (w.alloc (cfgB a0 a1 a2 a3 a4 a5 a6 a7 a8 a9)).alloc (.cells #[.int .i64 0, .bool false, .int .i64 0, .string ⟨#[]⟩, .string ⟨#[]⟩, .int .i64 0, .int .i64 0, .int .i64 0, .pointer none] 104) = w1 at A1 C c5 c6 ⊢
  have c5 := c5.out
  have c6 := c6.out
  go_wp2_with fail
  refine C.out.mono ?_
  rintro e w2 ⟨p, rfl, BB, hp, hb⟩
  have A2 : Hid (All (boC p a6 a5 a6 :: (blkC G [.int .i64 0, .bool false, .int .i64 0, .string ⟨#[]⟩, .string ⟨#[]⟩, .int .i64 0, .int .i64 0, .int .i64 0, .pointer none] 104 :: cs)) w2) := hid (A1.out.add (Fr.below BB) (blkC_good _ _ _) hb (fun k hk => by
    have : k = p := by simpa [blkC] using hk
    subst this
    exact ⟨hp, (Array.getElem?_eq_some_iff.1 hb).1⟩))
  have A3 := hid (A2.out.swap.setRow (vs' := (wt0 p).cells))
  have hg := hid (A2.out.tail.1.2.1)
  have I : Hid ((Tryz.prog.info? 104).map (·.size) = some (wt0 p).cells.toArray.size) := hid info67
  have O1 : Hid ((wt0 p).cells.toArray.all (·.oneCell') = true) := hid (by kernel_rfl)
  have Z1 : Hid (([.int .i64 0, .bool false, .int .i64 0, .string ⟨#[]⟩, .string ⟨#[]⟩, .int .i64 0, .int .i64 0, .int .i64 0, .pointer none] : List Value).toArray.size = (wt0 p).cells.toArray.size) := hid rfl
  clear C A1 BB hp hb c5 c6
  go_wp2_with (first | (refine wpList_build rfl 104 _ rfl (by kernel_rfl) ?_) | (refine wpList_store_row rfl 104 _ _ rfl G (wt0 p).cells.toArray rfl (by kernel_rfl) 104 _ hg.out I.out Z1.out O1.out ?_))
  refine bodyPost_ret (v := .agg (wt0 p).cells.toArray) (results_cell_row (fn := Tryz.f39) rfl _ _ G 104 (wt0 p).cells.toArray (0, 0) _ rfl A3.out.1.2.1 Tryz.underlying104 rfl I.out) rfl ?_
  exact ⟨p, rfl, A3.out.tail⟩

def quC (p : Nat) : List Value := (wt0 p).cells ++ [Value.int .i64 0, Value.int .i64 0, Value.int .i64 0]
/-- A client that has asked nothing. -/
def px0 (n id : Int) (p1 p2 : Nat) : Px := ⟨n, id, 0, 0, wt0 p1, wt0 p2, 0, 0, 0⟩
theorem cfg_bounds {a0 a1 a2 a3 a4 a5 a6 a7 a8 a9 : Int} (h : cfgOK a0 a1 a2 a3 a4 a5 a6 a7 a8 a9 = true) : (a0 = 3 ∨ a0 = 5 ∨ a0 = 7) ∧ (1 ≤ a1 ∧ a1 ≤ 8) ∧ 1 ≤ a6 ∧ a6 ≤ a5 ∧ a5 ≤ 1024 := by
  simp only [cfgOK, fl, wi, Bool.and_eq_true, Bool.or_eq_true, decide_eq_true_eq, beq_iff_eq] at h
  omega
set_option maxRecDepth 1000000 in
theorem new_cfg {w : World} (a0 a1 a2 a3 a4 a5 a6 a7 a8 a9 id : Int) (hc : cfgOK a0 a1 a2 a3 a4 a5 a6 a7 a8 a9 = false) : Calls Tryz.prog 21 #[cfgV a0 a1 a2 a3 a4 a5 a6 a7 a8 a9, .int .i64 id] w fun e w' => e = .returned (.tuple #[.pointer none, .int .i64 42]) ∧ Below w.heap.size w w' := by
  have C : Hid (Calls Tryz.prog 38 #[cfgV a0 a1 a2 a3 a4 a5 a6 a7 a8 a9] (w.alloc (cfgB a0 a1 a2 a3 a4 a5 a6 a7 a8 a9)) fun e w' => e = .returned (.int .i64 42) ∧ Below (w.alloc (cfgB a0 a1 a2 a3 a4 a5 a6 a7 a8 a9)).heap.size (w.alloc (cfgB a0 a1 a2 a3 a4 a5 a6 a7 a8 a9)) w') := hid (by have := cfg_any (w := w.alloc (cfgB a0 a1 a2 a3 a4 a5 a6 a7 a8 a9)) a0 a1 a2 a3 a4 a5 a6 a7 a8 a9; rw [cfgE_f hc] at this; exact this)
  clear hc
  go_enter Tryz.func21, Tryz.ntmps21
  go_wp2_with fail
  refine C.out.mono ?_
  rintro e w1 ⟨rfl, BB⟩
  have B1 := hid (b2' (ba w (cfgB a0 a1 a2 a3 a4 a5 a6 a7 a8 a9)) BB)
  clear BB C
  go_wp2
  go_ret2
  exact ⟨rfl, B1.out⟩
set_option maxRecDepth 1000000 in
theorem new_id {w : World} (a0 a1 a2 a3 a4 a5 a6 a7 a8 a9 id : Int) (hc : cfgOK a0 a1 a2 a3 a4 a5 a6 a7 a8 a9 = true) (hi : id < 0 ∨ a1 ≤ id) : Calls Tryz.prog 21 #[cfgV a0 a1 a2 a3 a4 a5 a6 a7 a8 a9, .int .i64 id] w fun e w' => e = .returned (.tuple #[.pointer none, .int .i64 140]) ∧ Below w.heap.size w w' := by
  have C : Hid (Calls Tryz.prog 38 #[cfgV a0 a1 a2 a3 a4 a5 a6 a7 a8 a9] (w.alloc (cfgB a0 a1 a2 a3 a4 a5 a6 a7 a8 a9)) fun e w' => e = .returned (.int .i64 0) ∧ Below (w.alloc (cfgB a0 a1 a2 a3 a4 a5 a6 a7 a8 a9)).heap.size (w.alloc (cfgB a0 a1 a2 a3 a4 a5 a6 a7 a8 a9)) w') := hid (by have := cfg_any (w := w.alloc (cfgB a0 a1 a2 a3 a4 a5 a6 a7 a8 a9)) a0 a1 a2 a3 a4 a5 a6 a7 a8 a9; rw [cfgE_t hc] at this; exact this)
  have c1 : Hid ((w.alloc (cfgB a0 a1 a2 a3 a4 a5 a6 a7 a8 a9)).cell? ⟨w.heap.size, 1, none⟩ = some (.int .i64 a1)) := hid (by rw [cell_at (heap_alloc_new w _)]; rfl)
  clear hc
  by_cases hi1 : id < 0
  · have e1 : decide (id < 0) = true := by simpa using hi1
    clear hi hi1
    go_enter Tryz.func21, Tryz.ntmps21
    go_wp2_with fail
    refine C.out.mono ?_
    rintro e w1 ⟨rfl, BB⟩
    have B1 := hid (b2' (ba w (cfgB a0 a1 a2 a3 a4 a5 a6 a7 a8 a9)) BB)
    clear BB C
    go_wp2
    go_ret2
    exact ⟨rfl, B1.out⟩
  · have e1 : decide (id < 0) = false := by simpa using hi1
    have e2 : decide (a1 ≤ id) = true := by simp; omega
    clear hi hi1
    go_enter Tryz.func21, Tryz.ntmps21
    go_wp2_with fail
    refine C.out.mono ?_
    rintro e w1 ⟨rfl, BB⟩
    have B1 := hid (b2' (ba w (cfgB a0 a1 a2 a3 a4 a5 a6 a7 a8 a9)) BB)
    have c1 : w1.cell? ⟨w.heap.size, 1, none⟩ = some (.int .i64 a1) := cell_under BB (by simp) c1.out
    clear BB C
    go_wp2
    go_ret2
    exact ⟨rfl, B1.out⟩
set_option maxHeartbeats 1600000 in
set_option maxRecDepth 1000000 in
theorem new_ok {cs : List Comp} {w : World} (h : All cs w) (a0 a1 a2 a3 a4 a5 a6 a7 a8 a9 id : Int) (hc : cfgOK a0 a1 a2 a3 a4 a5 a6 a7 a8 a9 = true) (hi : 0 ≤ id) (hi2 : id < a1) : Calls Tryz.prog 21 #[cfgV a0 a1 a2 a3 a4 a5 a6 a7 a8 a9, .int .i64 id] w fun e w' => ∃ P p1 p2, e = .returned (.tuple #[.pointer (some ⟨P, 0, none⟩), .int .i64 0]) ∧ All (pxL P (px0 a0 id p1 p2) a6 a5 a6 a6 ++ cs) w' := by
  obtain ⟨hb0, hb1, hb2, hb3, hb4⟩ := cfg_bounds hc
  have C : Hid (Calls Tryz.prog 38 #[cfgV a0 a1 a2 a3 a4 a5 a6 a7 a8 a9] (w.alloc (cfgB a0 a1 a2 a3 a4 a5 a6 a7 a8 a9)) fun e w' => e = .returned (.int .i64 0) ∧ Below (w.alloc (cfgB a0 a1 a2 a3 a4 a5 a6 a7 a8 a9)).heap.size (w.alloc (cfgB a0 a1 a2 a3 a4 a5 a6 a7 a8 a9)) w') := hid (by have := cfg_any (w := w.alloc (cfgB a0 a1 a2 a3 a4 a5 a6 a7 a8 a9)) a0 a1 a2 a3 a4 a5 a6 a7 a8 a9; rw [cfgE_t hc] at this; exact this)
  obtain ⟨H, hH⟩ : ∃ H, Hid (H = w.heap.size) := ⟨_, hid rfl⟩
  have A1 : Hid (All (blkC H [.int .i64 a0, .int .i64 a1, .int .i64 a2, .int .i64 a3, .int .i64 a4, .int .i64 a5, .int .i64 a6, .int .i64 a7, .int .i64 a8, .int .i64 a9] 23 :: cs) (w.alloc (cfgB a0 a1 a2 a3 a4 a5 a6 a7 a8 a9))) := hid (by rw [hH.out]; exact h.addBlk [.int .i64 a0, .int .i64 a1, .int .i64 a2, .int .i64 a3, .int .i64 a4, .int .i64 a5, .int .i64 a6, .int .i64 a7, .int .i64 a8, .int .i64 a9] 23)
  have C20 : Hid (∀ W cs', All cs' W → Calls Tryz.prog 39 #[cfgV a0 a1 a2 a3 a4 a5 a6 a7 a8 a9] W fun e w' => ∃ p, e = .returned (.agg (wt0 p).cells.toArray) ∧ All (boC p a6 a5 a6 :: cs') w') := hid (fun W cs' hW => idle_ok hW a0 a1 a2 a3 a4 a5 a6 a7 a8 a9 hb2 hb3 hb4)
  have e1 : decide (id < 0) = false := by simpa using hi
  have e2 : decide (a1 ≤ id) = false := by simpa using hi2
  have SG : Hid (∀ W, All (blkC H [.int .i64 a0, .int .i64 a1, .int .i64 a2, .int .i64 a3, .int .i64 a4, .int .i64 a5, .int .i64 a6, .int .i64 a7, .int .i64 a8, .int .i64 a9] 23 :: cs) W → (fun W => W.cell? ⟨H, 0, none⟩ = some (.int .i64 a0) ∧ W.cell? ⟨H, 1, none⟩ = some (.int .i64 a1) ∧ W.cell? ⟨H, 2, none⟩ = some (.int .i64 a2) ∧ W.cell? ⟨H, 3, none⟩ = some (.int .i64 a3) ∧ W.cell? ⟨H, 4, none⟩ = some (.int .i64 a4) ∧ W.cell? ⟨H, 5, none⟩ = some (.int .i64 a5) ∧ W.cell? ⟨H, 6, none⟩ = some (.int .i64 a6) ∧ W.cell? ⟨H, 7, none⟩ = some (.int .i64 a7) ∧ W.cell? ⟨H, 8, none⟩ = some (.int .i64 a8) ∧ W.cell? ⟨H, 9, none⟩ = some (.int .i64 a9)) W) := hid (fun W hW => ⟨by rw [cell_at hW.1.2.1]; rfl, by rw [cell_at hW.1.2.1]; rfl, by rw [cell_at hW.1.2.1]; rfl, by rw [cell_at hW.1.2.1]; rfl, by rw [cell_at hW.1.2.1]; rfl, by rw [cell_at hW.1.2.1]; rfl, by rw [cell_at hW.1.2.1]; rfl, by rw [cell_at hW.1.2.1]; rfl, by rw [cell_at hW.1.2.1]; rfl, by rw [cell_at hW.1.2.1]; rfl⟩)
  clear h hc hi hi2 hb0 hb1 hb2 hb3 hb4
  go_enter Tryz.func21, Tryz.ntmps21
  go_wp2_with fail
  refine C.out.mono ?_
  rintro e w1 ⟨rfl, BB⟩
  have A2 := hid (A1.out.later BB)
  clear BB C A1
  simp only [← hH.out]
  have c1 : w1.cell? ⟨H, 1, none⟩ = some (.int .i64 a1) := (SG.out _ A2.out).2.1
  go_upto_region 6 with fail
  have A4 := hid A2.out.drew
  have p0 := hid (SG.out _ A4.out)
  refine wp_region_held_drew (S := (fun W => W.cell? ⟨H, 0, none⟩ = some (.int .i64 a0) ∧ W.cell? ⟨H, 1, none⟩ = some (.int .i64 a1) ∧ W.cell? ⟨H, 2, none⟩ = some (.int .i64 a2) ∧ W.cell? ⟨H, 3, none⟩ = some (.int .i64 a3) ∧ W.cell? ⟨H, 4, none⟩ = some (.int .i64 a4) ∧ W.cell? ⟨H, 5, none⟩ = some (.int .i64 a5) ∧ W.cell? ⟨H, 6, none⟩ = some (.int .i64 a6) ∧ W.cell? ⟨H, 7, none⟩ = some (.int .i64 a7) ∧ W.cell? ⟨H, 8, none⟩ = some (.int .i64 a8) ∧ W.cell? ⟨H, 9, none⟩ = some (.int .i64 a9))) (by kernel_rfl) p0.out (fun hHeld => ?_)
  refine wpAnyH_take (i := 0) (oi := { dst := some 20, op := Go.Op.fieldAddr 23 (Go.Operand.tmp 2) 0, type := 0, pos := "proxy.go:30", after := #[], guard := none }) (v := ?_) rfl (by kernel_rfl) (by kernel_rfl) (by kernel_rfl) (fun _ _ _ h => h) (Or.inl ⟨by rfl, ?_⟩) hHeld ?_
  rotate_left
  · intro W hSw
    (try dsimp only at hSw)
    go_simp
    (try with_reducible rfl)
  (try simp only [Act.put, List.setIfInBounds_toArray, List.set_cons_zero, List.set_cons_succ])
  refine wpAnyH_take (i := 1) (oi := { dst := some 21, op := Go.Op.load 3 (Go.Operand.tmp 20), type := 3, pos := "proxy.go:30", after := #[{ on := 0, ground := Go.Ground.data }], guard := none }) (v := ?_) rfl (by kernel_rfl) (by kernel_rfl) (by kernel_rfl) (fun _ _ _ h => h) (Or.inl ⟨by rfl, ?_⟩) hHeld ?_
  rotate_left
  · intro W hSw
    (try dsimp only at hSw)
    go_simp
    (try with_reducible rfl)
  (try simp only [Act.put, List.setIfInBounds_toArray, List.set_cons_zero, List.set_cons_succ])
  refine wpAnyH_take (i := 2) (oi := { dst := some 22, op := Go.Op.move (Go.Operand.tmp 1), type := 3, pos := "proxy.go:30", after := #[], guard := none }) (v := ?_) rfl (by kernel_rfl) (by kernel_rfl) (by kernel_rfl) (fun _ _ _ h => h) (Or.inl ⟨by rfl, ?_⟩) hHeld ?_
  rotate_left
  · intro W hSw
    (try dsimp only at hSw)
    go_simp
    (try with_reducible rfl)
  (try simp only [Act.put, List.setIfInBounds_toArray, List.set_cons_zero, List.set_cons_succ])
  refine wpAnyH_take (i := 3) (oi := { dst := some 23, op := Go.Op.load 23 (Go.Operand.tmp 2), type := 23, pos := "proxy.go:30", after := #[], guard := none }) (v := ?_) rfl (by kernel_rfl) (by kernel_rfl) (by kernel_rfl) (fun _ _ _ h => h) (Or.inl ⟨by rfl, ?_⟩) hHeld ?_
  rotate_left
  · intro W hSw
    (try dsimp only at hSw)
    go_simp
    (try with_reducible rfl)
  (try simp only [Act.put, List.setIfInBounds_toArray, List.set_cons_zero, List.set_cons_succ])
  refine wpAnyH_take (i := 6) (oi := { dst := some 26, op := Go.Op.load 23 (Go.Operand.tmp 2), type := 23, pos := "proxy.go:30", after := #[], guard := none }) (v := ?_) rfl (by kernel_rfl) (by kernel_rfl) (by kernel_rfl) (fun _ _ _ h => h) (Or.inl ⟨by rfl, ?_⟩) hHeld ?_
  rotate_left
  · intro W hSw
    (try dsimp only at hSw)
    go_simp
    (try with_reducible rfl)
  (try simp only [Act.put, List.setIfInBounds_toArray, List.set_cons_zero, List.set_cons_succ])
  refine wpAnyH_ready (rs := [4]) (by kernel_rfl) (by simp) ?_
  refine AllReadyH.cons (o := { dst := some 24, op := Go.Op.call { callee := Go.Callee.value (Go.Operand.func 39), args := #[Go.Operand.tmp 23], argTypes := #[23] }, type := 104, pos := "proxy.go:30", after := #[{ on := 3, ground := Go.Ground.data }], guard := none }) rfl (fun K hK => ?_) AllReadyH.nil
  go_simp
  refine (C20.out _ _ A4.out).mono ?_; rintro e w4 ⟨p1, rfl, hw4⟩; have A5 := hid hw4; have q1 := hid (SG.out _ A5.out.tail); clear hw4
  refine hK.out _ _ q1.out (fun hHeld => ?_)
  clear hK K
  (try simp only [Act.put, List.setIfInBounds_toArray, List.set_cons_zero, List.set_cons_succ])
  refine wpAnyH_take (i := 5) (oi := { dst := some 25, op := Go.Op.build 107 #[(0, Go.Operand.tmp 24)], type := 107, pos := "proxy.go:30", after := #[{ on := 4, ground := Go.Ground.data }], guard := none }) (v := .agg (wt0 p1).cells.toArray) rfl (by kernel_rfl) (by kernel_rfl) (by kernel_rfl) (fun _ _ _ h => h) (yieldsIf_build (by rfl) 107 _ rfl (wt0 p1).cells.toArray (by kernel_rfl)) hHeld ?_
  (try simp only [Act.put, List.setIfInBounds_toArray, List.set_cons_zero, List.set_cons_succ])
  refine wpAnyH_ready (rs := [7]) (by kernel_rfl) (by simp) ?_
  refine AllReadyH.cons (o := { dst := some 27, op := Go.Op.call { callee := Go.Callee.value (Go.Operand.func 39), args := #[Go.Operand.tmp 26], argTypes := #[23] }, type := 104, pos := "proxy.go:30", after := #[{ on := 6, ground := Go.Ground.data }, { on := 4, ground := Go.Ground.chain }], guard := none }) rfl (fun K hK => ?_) AllReadyH.nil
  go_simp
  refine (C20.out _ _ A5.out).mono ?_; rintro e w5 ⟨p2, rfl, hw5⟩; have A6 := hid hw5; have q2 := hid (SG.out _ A6.out.tail.tail); clear hw5
  refine hK.out _ _ q2.out (fun hHeld => ?_)
  clear hK K
  (try simp only [Act.put, List.setIfInBounds_toArray, List.set_cons_zero, List.set_cons_succ])
  refine wpAnyH_take (i := 8) (oi := { dst := some 28, op := Go.Op.build 109 #[(0, Go.Operand.tmp 27)], type := 109, pos := "proxy.go:30", after := #[{ on := 7, ground := Go.Ground.data }], guard := none }) (v := .agg (quC p2).toArray) rfl (by kernel_rfl) (by kernel_rfl) (by kernel_rfl) (fun _ _ _ h => h) (yieldsIf_build (by rfl) 109 _ rfl (quC p2).toArray (by kernel_rfl)) hHeld ?_
  (try simp only [Act.put, List.setIfInBounds_toArray, List.set_cons_zero, List.set_cons_succ])
  refine wpAnyH_take (i := 9) (oi := { dst := some 29, op := Go.Op.build 111 #[(0, Go.Operand.tmp 21), (1, Go.Operand.tmp 22), (4, Go.Operand.tmp 25), (5, Go.Operand.tmp 28)], type := 111, pos := "proxy.go:30", after := #[{ on := 1, ground := Go.Ground.data }, { on := 2, ground := Go.Ground.data }, { on := 5, ground := Go.Ground.data }, { on := 8, ground := Go.Ground.data }], guard := none }) (v := .agg (px0 a0 id p1 p2).cells.toArray) rfl (by kernel_rfl) (by kernel_rfl) (by kernel_rfl) (fun _ _ _ h => h) (yieldsIf_build (by rfl) 111 _ rfl (px0 a0 id p1 p2).cells.toArray (by kernel_rfl)) hHeld ?_
  (try simp only [Act.put, List.setIfInBounds_toArray, List.set_cons_zero, List.set_cons_succ])
  refine wpAnyH_ready (rs := [10]) (by kernel_rfl) (by simp) ?_
  refine AllReadyH.cons (o := { dst := some 30, op := Go.Op.box 111 (Go.Operand.tmp 29), type := 70, pos := "proxy.go:30", after := #[{ on := 9, ground := Go.Ground.data }], guard := none }) rfl (fun K hK => ?_) AllReadyH.nil
  go_simp
  have A7 := hid (A6.out.addBlk (px0 a0 id p1 p2).cells 111); have q3 := hid (SG.out _ A7.out.tail.tail.tail)
  refine hK.out _ _ q3.out (fun hHeld => ?_)
  clear hK K
  (try simp only [Act.put, List.setIfInBounds_toArray, List.set_cons_zero, List.set_cons_succ])
  refine wpAnyH_take (i := 11) (oi := { dst := some 4, op := Go.Op.assign (Go.Operand.tmp 30), type := 70, pos := "proxy.go:30", after := #[{ on := 10, ground := Go.Ground.data }, { on := 7, ground := Go.Ground.chain }, { on := 0, ground := Go.Ground.phase }, { on := 1, ground := Go.Ground.phase }, { on := 2, ground := Go.Ground.phase }, { on := 3, ground := Go.Ground.phase }, { on := 4, ground := Go.Ground.phase }, { on := 5, ground := Go.Ground.phase }, { on := 6, ground := Go.Ground.phase }, { on := 7, ground := Go.Ground.phase }, { on := 8, ground := Go.Ground.phase }, { on := 9, ground := Go.Ground.phase }, { on := 10, ground := Go.Ground.phase }], guard := none }) (v := ?_) rfl (by kernel_rfl) (by kernel_rfl) (by kernel_rfl) (fun _ _ _ h => h) (Or.inl ⟨by rfl, ?_⟩) hHeld ?_
  rotate_left
  · intro W hSw
    (try dsimp only at hSw)
    go_simp
    (try with_reducible rfl)
  (try simp only [Act.put, List.setIfInBounds_toArray, List.set_cons_zero, List.set_cons_succ])
  refine wpAnyH_take (i := 12) (oi := { dst := some 5, op := Go.Op.assign (Go.Operand.const (Go.Value.int Go.IntKind.i64 0)), type := 35, pos := "proxy.go:30", after := #[{ on := 11, ground := Go.Ground.chain }, { on := 0, ground := Go.Ground.phase }, { on := 1, ground := Go.Ground.phase }, { on := 2, ground := Go.Ground.phase }, { on := 3, ground := Go.Ground.phase }, { on := 4, ground := Go.Ground.phase }, { on := 5, ground := Go.Ground.phase }, { on := 6, ground := Go.Ground.phase }, { on := 7, ground := Go.Ground.phase }, { on := 8, ground := Go.Ground.phase }, { on := 9, ground := Go.Ground.phase }, { on := 10, ground := Go.Ground.phase }, { on := 11, ground := Go.Ground.phase }], guard := none }) (v := ?_) rfl (by kernel_rfl) (by kernel_rfl) (by kernel_rfl) (fun _ _ _ h => h) (Or.inl ⟨by rfl, ?_⟩) hHeld ?_
  rotate_left
  · intro W hSw
    (try dsimp only at hSw)
    go_simp
    (try with_reducible rfl)
  (try simp only [Act.put, List.setIfInBounds_toArray, List.set_cons_zero, List.set_cons_succ])
  refine wpAnyH_done (by kernel_rfl) ?_ _
  clear hHeld
  clear p0 q1 q2 q3 SG C20 c1
  obtain ⟨P, hP⟩ : ∃ P, Hid (P = w5.heap.size) := ⟨_, hid rfl⟩
  rw [← hP.out] at A7
  simp only [← hP.out]
  have A8 : Hid (All (pxL P (px0 a0 id p1 p2) a6 a5 a6 a6 ++ cs) (w5.alloc (.cells (px0 a0 id p1 p2).cells.toArray 111))) := hid (by
    have h1 := A7.out.perm (List.Perm.cons _ (List.Perm.swap _ _ _))
    exact (h1.perm (List.perm_middle (a := blkC H [.int .i64 a0, .int .i64 a1, .int .i64 a2, .int .i64 a3, .int .i64 a4, .int .i64 a5, .int .i64 a6, .int .i64 a7, .int .i64 a8, .int .i64 a9] 23) (l₁ := [blkC P (px0 a0 id p1 p2).cells 111, boC p1 a6 a5 a6, boC p2 a6 a5 a6]))).tail)
  generalize w5.alloc (.cells (px0 a0 id p1 p2).cells.toArray 111) = w6 at A8 ⊢
  go_wp2
  go_ret2
  first | exact ⟨P, p1, p2, rfl, A8.out⟩ | exact ⟨P, p1, rfl, p2, A8.out⟩
end Go.Proofs.YtdhkdniddjnigaaGreatDoor

namespace Go.Proofs.YtdhkdniddjnigaaGreatDoor
open Go.RowKit
set_option linter.unusedVariables false
theorem wp_append_run {P : Program} {w : World} {o : Oper} {a : Act} {K : Act → World → Prop} {Q : Exit → Act → World → Prop} (s x : Operand) (t : TypeId)
    (ho : o.op = .call { callee := .builtin .append, args := #[s, x], argTypes := #[t, t] }) (v1 v2 v' : Value) (w' : World) (hs : a.eval s = v1) (hx : a.eval x = v2)
    (hr : (Builtin.append_ #[t, t] o.type #[v1, v2]).run P w = .ok v' w') (h : K (a.put o.dst v') w') : o.wp P a w K Q := by
  unfold Oper.wp execOp
  simp only [ho, resolve, invoke, builtin, Sem.run_bind, Sem.run_pure, Result.andThen_ok, List.map_toArray, List.map_cons, List.map_nil, hs, hx, hr]
  exact h
theorem Ms.len (m : Ms) : m.cells.length = 23 := rfl
theorem Ms.one (m : Ms) : ∀ u ∈ m.cells, u.oneCell' = true := by
  intro u hu
  have := one41 m
  rw [Array.all_eq_true'] at this
  exact this u (by simpa using hu)
/-- A row of messages. -/
abbrev msC (v : Value) (l : List Ms) : Comp := rowC 51 23 v l.length (l.flatMap Ms.cells)
/-- One message more. -/
theorem appM {W : World} {v : Value} {l : List Ms} {x : Ms} {H : Nat} {cs : List Comp} (A : All (msC v l :: blkC H x.cells 51 :: cs) W) (hb : (l.length + 1) * 264 ≤ 140737488355328) :
    ∃ ao cap w', (Builtin.append_ #[59, 59] 59 #[v, .slice (some ⟨H, 0, none⟩) 1 1]).run Tryz.prog W = .ok (.slice ao (l.length + 1) cap) w' ∧ All (msC (.slice ao (l.length + 1) cap) (l ++ [x]) :: blkC H x.cells 51 :: cs) w' := by
  obtain ⟨i1, hi1, hz0, hz1, hz2⟩ := info_parts Tryz.inf41
  have hH : W.heap[H]? = some (.cells x.cells.toArray 51 (0, 0)) := A.tail.1.2.1
  have := appN (c := 1) und49 hi1 hz0 hz1 hz2 rfl (by decide) A (some ⟨H, 0, none⟩) (news := x.cells) (m := 1) rfl (fun _ => ⟨_, rfl, fun j u hu => by rw [Addr.add_lit, Nat.zero_add, cell_at hH]; simpa using hu⟩) x.one (by unfold maxLen; omega) hb
  have e : (l ++ [x]).flatMap Ms.cells = l.flatMap Ms.cells ++ x.cells := by simp
  unfold msC
  rw [e, List.length_append]
  exact this
end Go.Proofs.YtdhkdniddjnigaaGreatDoor

namespace Go.Proofs.YtdhkdniddjnigaaGreatDoor
open Go.RowKit
set_option linter.unusedVariables false

set_option maxHeartbeats 800000 in
set_option maxRecDepth 1000000 in
theorem next34 {P : Nat} {x : Px} {b m n1 n2 : Int} {cs : List Comp} {w : World} (h : All (pxL P x b m n1 n2 ++ cs) w) (n : Int) (hn : 1 ≤ n) (hw : 0 ≤ x.who) (hw2 : x.who ≤ 7) (ha : 0 ≤ x.again) (ha2 : x.again ≤ 4611686018427387904) : Calls Tryz.prog 80 #[.pointer (some ⟨P, 13, none⟩), .int .i64 n] w fun e w' => e = .returned (.int .i64 ((x.who + x.again).tmod n)) ∧ All (pxL P { x with again := x.again + 1 } b m n1 n2 ++ cs) w' := by
  have c22 : w.cell? ⟨P, 22, none⟩ = some (.int .i64 x.who) := by rw [cell_at h.px]; rfl
  have c24 : w.cell? ⟨P, 24, none⟩ = some (.int .i64 x.again) := by rw [cell_at h.px]; rfl
  have f1 := free_at h.px 24
  have A := hid (h.setBlk 24 (.int .i64 (x.again + 1)))
  have d22 : Hid ((w.setCell ⟨P, 24, none⟩ (.int .i64 (x.again + 1))).cell? ⟨P, 22, none⟩ = some (.int .i64 x.who)) := hid (by rw [cell_at A.out.1.2.1]; rfl)
  have d24 : Hid ((w.setCell ⟨P, 24, none⟩ (.int .i64 (x.again + 1))).cell? ⟨P, 24, none⟩ = some (.int .i64 (x.again + 1))) := hid (by rw [cell_at A.out.1.2.1]; rfl)
  have e1 : IntKind.i64.wrap (x.again + 1) = x.again + 1 := by rw [IntKind.wrap_i64]; omega
  have e2 : IntKind.i64.wrap (x.who + (x.again + 1)) = x.who + (x.again + 1) := by rw [IntKind.wrap_i64]; omega
  have e3 : IntKind.i64.wrap (x.who + (x.again + 1) - 1) = x.who + x.again := by rw [IntKind.wrap_i64]; omega
  have n0 : n ≠ 0 := by omega
  have n1 : n ≠ -1 := by omega
  clear h hn hw hw2 ha ha2
  go_enter Tryz.func80, Tryz.ntmps80
  go_upto_region 2 with fail
  generalize w.setCell ⟨P, 24, none⟩ (.int .i64 (x.again + 1)) = w1 at A d22 d24 ⊢
  clear c22 c24 f1
  have d22 := d22.out
  have d24 := d24.out
  go_region
  go_wp2
  go_ret
  exact ⟨rfl, A.out.drew⟩
end Go.Proofs.YtdhkdniddjnigaaGreatDoor

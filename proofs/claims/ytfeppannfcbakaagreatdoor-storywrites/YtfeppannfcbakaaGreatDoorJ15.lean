import Derived.Test.YtfeppannfcbakaaGreatDoorJ14
import Derived.Deep.WholeRow
namespace Go.Proofs.YtfeppannfcbakaaGreatDoor
open Go.RowKit
set_option linter.unusedVariables false
set_option maxRecDepth 100000

/-- What a word that is read leaves behind. -/
def RWPost (P o : Nat) (C : List Value) (ok : Bool) (v : Value) (cs : List Comp) (e : Ending) (w' : World) : Prop := e = .returned (.bool ok) ∧ All (blkC P (C.set o v) 36 :: cs) w'
set_option maxHeartbeats 1600000 in
set_option maxRecDepth 1000000 in
theorem rw_int {P o : Nat} {C : List Value} {x : List UInt8} {z : Value} {cs : List Comp} {w : World} (hE : En w) (hz : C[o]? = some z) (hx : x.length ≤ 140737488355328) (A : All (blkC P C 36 :: cs) w) :
    Calls Tryz.prog 133 #[thV P (.int o), .string ⟨x.toArray⟩] w (RWPost P o C (numW x).isSome (.int .i64 (((numW x).getD 0 : Nat) : Int)) cs) := by
  have HA := hid A
  have NA := hid (Number_any (l := x) hE.v hx)
  have EA : numA x = .tuple #[.int .i64 (((numW x).getD 0 : Nat) : Int), .bool (numW x).isSome] := by unfold numA; cases numW x <;> rfl
  rw [EA] at NA
  generalize (((numW x).getD 0 : Nat) : Int) = V at *
  generalize (numW x).isSome = B at *
  have SF : Hid (∀ W, All (blkC P C 36 :: cs) W → W.cell? ⟨P, o, none⟩ = some z ∧ W.frozen? ⟨P, o, none⟩ = false ∧ P < W.heap.size) := hid (fun W hW => ⟨cell_in (P := P) hW (t := 36) (List.mem_cons_self) hz, free_at (hW.blk (g := P) (vs := C) (t := 36) (List.mem_cons_self)) o, hW.1.2.2 P (by simp [blkC])⟩)
  clear EA A hE hz
  simp only [thV]
  unfold RWPost
  generalize ByteArray.mk x.toArray = X at *
  have ta0 : ∀ W : World, (Instr.typeAssert (.iface 97 (.pointer (some ⟨P, o, none⟩))) 20 97 true).run Tryz.prog W = .ok (.tuple #[.pointer (some ⟨P, o, none⟩), .bool true]) W := fun W => by kernel_rfl
  go_enter Tryz.func133, Tryz.ntmps133
  go_wp2_with (go_at_call 81; refine NA.out.mono ?_; rintro e w1 ⟨rfl, B1⟩; have K1 := hid (HA.out.later B1); clear B1; obtain ⟨s1, s2, s3⟩ := SF.out _ K1.out; have K2 := hid (K1.out.setBlk o (.int .i64 V)))
  go_ret
  exact ⟨rfl, K2.out⟩
set_option maxHeartbeats 1600000 in
set_option maxRecDepth 1000000 in
theorem rw_cod {P o : Nat} {C : List Value} {x : List UInt8} {z : Value} {cs : List Comp} {w : World} (hE : En w) (hz : C[o]? = some z) (hx : x.length ≤ 140737488355328) (A : All (blkC P C 36 :: cs) w) :
    Calls Tryz.prog 133 #[thV P (.cod o), .string ⟨x.toArray⟩] w (RWPost P o C (numW x).isSome (.int .i64 (((numW x).getD 0 : Nat) : Int)) cs) := by
  have HA := hid A
  have NA := hid (Number_any (l := x) hE.v hx)
  have EA : numA x = .tuple #[.int .i64 (((numW x).getD 0 : Nat) : Int), .bool (numW x).isSome] := by unfold numA; cases numW x <;> rfl
  rw [EA] at NA
  generalize (((numW x).getD 0 : Nat) : Int) = V at *
  generalize (numW x).isSome = B at *
  have SF : Hid (∀ W, All (blkC P C 36 :: cs) W → W.cell? ⟨P, o, none⟩ = some z ∧ W.frozen? ⟨P, o, none⟩ = false ∧ P < W.heap.size) := hid (fun W hW => ⟨cell_in (P := P) hW (t := 36) (List.mem_cons_self) hz, free_at (hW.blk (g := P) (vs := C) (t := 36) (List.mem_cons_self)) o, hW.1.2.2 P (by simp [blkC])⟩)
  clear EA A hE hz
  simp only [thV]
  unfold RWPost
  generalize ByteArray.mk x.toArray = X at *
  have ta0 : ∀ W : World, (Instr.typeAssert (.iface 98 (.pointer (some ⟨P, o, none⟩))) 20 97 true).run Tryz.prog W = .ok (.tuple #[.pointer none, .bool false]) W := fun W => by kernel_rfl
  have ta1 : ∀ W : World, (Instr.typeAssert (.iface 98 (.pointer (some ⟨P, o, none⟩))) 20 98 true).run Tryz.prog W = .ok (.tuple #[.pointer (some ⟨P, o, none⟩), .bool true]) W := fun W => by kernel_rfl
  go_enter Tryz.func133, Tryz.ntmps133
  go_wp2_with (go_at_call 81; refine NA.out.mono ?_; rintro e w1 ⟨rfl, B1⟩; have K1 := hid (HA.out.later B1); clear B1; obtain ⟨s1, s2, s3⟩ := SF.out _ K1.out; have K2 := hid (K1.out.setBlk o (.int .i64 V)))
  go_ret
  exact ⟨rfl, K2.out⟩
set_option maxHeartbeats 1600000 in
set_option maxRecDepth 1000000 in
theorem rw_sta {P o : Nat} {C : List Value} {x : List UInt8} {z : Value} {cs : List Comp} {w : World} (hE : En w) (hz : C[o]? = some z) (hx : x.length ≤ 140737488355328) (A : All (blkC P C 36 :: cs) w) :
    Calls Tryz.prog 133 #[thV P (.sta o), .string ⟨x.toArray⟩] w (RWPost P o C (stW x).isSome (.int .i64 (((stW x).getD 0 : Nat) : Int)) cs) := by
  have HA := hid A
  have SF : Hid (∀ W, All (blkC P C 36 :: cs) W → W.cell? ⟨P, o, none⟩ = some z ∧ W.frozen? ⟨P, o, none⟩ = false ∧ P < W.heap.size) := hid (fun W hW => ⟨cell_in (P := P) hW (t := 36) (List.mem_cons_self) hz, free_at (hW.blk (g := P) (vs := C) (t := 36) (List.mem_cons_self)) o, hW.1.2.2 P (by simp [blkC])⟩)
  have HAA : Hid (All (blkC P C 36 :: blkC w.heap.size [.pointer (some ⟨P, o, none⟩)] 140 :: cs) (w.alloc (.cells #[.pointer (some ⟨P, o, none⟩)] 140)).drew) := hid (HA.out.addBlk [.pointer (some ⟨P, o, none⟩)] 140).swap.drew
  have NA : Hid (∀ W, Stt W → Calls Tryz.prog 150 #[.string ⟨x.toArray⟩] W fun e w' => e = .returned (.tuple #[.int .i64 (((stW x).getD 0 : Nat) : Int), .bool (stW x).isSome]) ∧ w' = W) := hid (fun W hW => stOf_any hW)
  have ST : Hid (Stt (w.alloc (.cells #[.pointer (some ⟨P, o, none⟩)] 140)).drew) := hid (by have := hE.s.later (ba w (.cells #[.pointer (some ⟨P, o, none⟩)] 140)); exact ⟨this.1, this.2⟩)
  have I140 : Hid ((Tryz.prog.info? 140).map (·.size) = some (#[Value.pointer (some ⟨P, o, none⟩)] : Array Value).size) := hid (by kernel_rfl)
  generalize (((stW x).getD 0 : Nat) : Int) = V at *
  generalize (stW x).isSome = B at *
  have SF3 : Hid (∀ W, All (blkC P C 36 :: blkC w.heap.size [.pointer (some ⟨P, o, none⟩)] 140 :: cs) W → W.cell? ⟨P, o, none⟩ = some z ∧ W.frozen? ⟨P, o, none⟩ = false ∧ P < W.heap.size) := hid (fun W hW => SF.out W hW.swap.tail)
  have SN : Hid (∀ W C', All (blkC P C' 36 :: blkC w.heap.size [.pointer (some ⟨P, o, none⟩)] 140 :: cs) W → W.cell? ⟨w.heap.size, 0, none⟩ = some (.pointer (some ⟨P, o, none⟩))) := hid (fun W C' hW => cell_in (P := w.heap.size) (o := 0) hW (t := 140) (List.mem_cons_of_mem _ (List.mem_cons_self)) rfl)
  have DRP : Hid (∀ W C', All (blkC P C' 36 :: blkC w.heap.size [.pointer (some ⟨P, o, none⟩)] 140 :: cs) W → All (blkC P C' 36 :: cs) W) := hid (fun W C' hW => hW.swap.tail)
  clear A hE hz SF
  simp only [thV]
  unfold RWPost
  generalize ByteArray.mk x.toArray = X at *
  have ta0 : ∀ W : World, (Instr.typeAssert (.iface 140 (.agg #[.pointer (some ⟨P, o, none⟩)])) 20 97 true).run Tryz.prog W = .ok (.tuple #[.pointer none, .bool false]) W := fun W => by kernel_rfl
  have ta1 : ∀ W : World, (Instr.typeAssert (.iface 140 (.agg #[.pointer (some ⟨P, o, none⟩)])) 20 98 true).run Tryz.prog W = .ok (.tuple #[.pointer none, .bool false]) W := fun W => by kernel_rfl
  have ta2 : ∀ W : World, (Instr.typeAssert (.iface 140 (.agg #[.pointer (some ⟨P, o, none⟩)])) 20 101 true).run Tryz.prog W = .ok (.tuple #[.pointer none, .bool false]) W := fun W => by kernel_rfl
  have ta3 : ∀ W : World, (Instr.typeAssert (.iface 140 (.agg #[.pointer (some ⟨P, o, none⟩)])) 20 140 true).run Tryz.prog W = .ok (.tuple #[.agg #[.pointer (some ⟨P, o, none⟩)], .bool true]) W := fun W => by kernel_rfl
  go_enter Tryz.func133, Tryz.ntmps133
  go_upto_region 17 with (refine wpList_store_row rfl 140 _ _ rfl w.heap.size #[.pointer (some ⟨P, o, none⟩)] rfl rfl 140 _ (heap_alloc_new w _) I140.out rfl rfl ?_; rw [World.setRow_alloc_new])
  refine wp_region_held_drew (S := (fun W => W.cell? ⟨w.heap.size, 0, none⟩ = some (.pointer (some ⟨P, o, none⟩)))) (by kernel_rfl) (SN.out _ _ HAA.out) (fun hHeld => ?_)
  generalize World.drew _ = wd at *
  obtain ⟨s1, s2, s3⟩ := SF3.out _ HAA.out
  have K2 := hid (HAA.out.setBlk o (.int .i64 V))
  refine wpAnyH_take (i := 0) (oi := { dst := Option.some 52, op := Go.Op.fieldAddr 140 (Go.Operand.tmp 10) 0, type := 0, pos := "read.go:140", after := #[], guard := Option.none }) (v := ?_) rfl (by kernel_rfl) (by kernel_rfl) (by kernel_rfl) (fun _ _ _ h => h) (Or.inl ⟨by rfl, ?_⟩) hHeld ?_
  rotate_left
  · intro W hSw
    (try dsimp only at hSw)
    go_simp
    (try with_reducible rfl)
  (try simp only [Act.put, List.setIfInBounds_toArray, List.set_cons_zero, List.set_cons_succ])
  refine wpAnyH_take (i := 1) (oi := { dst := Option.some 53, op := Go.Op.load 97 (Go.Operand.tmp 52), type := 97, pos := "read.go:140", after := #[{ on := 0, ground := Go.Ground.data }], guard := Option.none }) (v := ?_) rfl (by kernel_rfl) (by kernel_rfl) (by kernel_rfl) (fun _ _ _ h => h) (Or.inl ⟨by rfl, ?_⟩) hHeld ?_
  rotate_left
  · intro W hSw
    (try dsimp only at hSw)
    go_simp
    (try with_reducible rfl)
  (try simp only [Act.put, List.setIfInBounds_toArray, List.set_cons_zero, List.set_cons_succ])
  refine wpAnyH_take (i := 2) (oi := { dst := Option.some 54, op := Go.Op.move (Go.Operand.tmp 1), type := 9, pos := "read.go:140", after := #[], guard := Option.none }) (v := ?_) rfl (by kernel_rfl) (by kernel_rfl) (by kernel_rfl) (fun _ _ _ h => h) (Or.inl ⟨by rfl, ?_⟩) hHeld ?_
  rotate_left
  · intro W hSw
    (try dsimp only at hSw)
    go_simp
    (try with_reducible rfl)
  (try simp only [Act.put, List.setIfInBounds_toArray, List.set_cons_zero, List.set_cons_succ])
  refine wpAnyH_ready (rs := [3]) (by kernel_rfl) (by simp) ?_
  refine AllReadyH.cons (o := { dst := Option.some 55, op := Go.Op.call { callee := Go.Callee.value (Go.Operand.func 150), args := #[Go.Operand.tmp 54], argTypes := #[9] }, type := 93, pos := "read.go:140", after := #[{ on := 2, ground := Go.Ground.data }], guard := Option.none }) rfl (fun K hK => ?_) AllReadyH.nil
  go_simp
  go_at_call 150; refine (NA.out _ ST.out).mono ?_; rintro e w1 ⟨rfl, h1⟩; subst w1
  refine hK.out _ _ (SN.out _ _ HAA.out) (fun hHeld => ?_)
  clear hK K
  (try simp only [Act.put, List.setIfInBounds_toArray, List.set_cons_zero, List.set_cons_succ])
  refine wpAnyH_take (i := 4) (oi := { dst := Option.some 51, op := Go.Op.move (Go.Operand.tmp 55), type := 93, pos := "read.go:140", after := #[{ on := 3, ground := Go.Ground.data }], guard := Option.none }) (v := ?_) rfl (by kernel_rfl) (by kernel_rfl) (by kernel_rfl) (fun _ _ _ h => h) (Or.inl ⟨by rfl, ?_⟩) hHeld ?_
  rotate_left
  · intro W hSw
    (try dsimp only at hSw)
    go_simp
    (try with_reducible rfl)
  (try simp only [Act.put, List.setIfInBounds_toArray, List.set_cons_zero, List.set_cons_succ])
  refine wpAnyH_take (i := 5) (oi := { dst := Option.some 56, op := Go.Op.extract (Go.Operand.tmp 51) 0, type := 3, pos := "read.go:140", after := #[{ on := 4, ground := Go.Ground.data }], guard := Option.none }) (v := ?_) rfl (by kernel_rfl) (by kernel_rfl) (by kernel_rfl) (fun _ _ _ h => h) (Or.inl ⟨by rfl, ?_⟩) hHeld ?_
  rotate_left
  · intro W hSw
    (try dsimp only at hSw)
    go_simp
    (try with_reducible rfl)
  (try simp only [Act.put, List.setIfInBounds_toArray, List.set_cons_zero, List.set_cons_succ])
  refine wpAnyH_take (i := 6) (oi := { dst := Option.some 57, op := Go.Op.extract (Go.Operand.tmp 51) 1, type := 4, pos := "read.go:140", after := #[{ on := 4, ground := Go.Ground.data }, { on := 8, ground := Go.Ground.gcOnly Go.Departure.lateStores }], guard := Option.none }) (v := ?_) rfl (by kernel_rfl) (by kernel_rfl) (by kernel_rfl) (fun _ _ _ h => h) (Or.inl ⟨by rfl, ?_⟩) hHeld ?_
  rotate_left
  · intro W hSw
    (try dsimp only at hSw)
    go_simp
    (try with_reducible rfl)
  (try simp only [Act.put, List.setIfInBounds_toArray, List.set_cons_zero, List.set_cons_succ])
  refine wpAnyH_take (i := 7) (oi := { dst := Option.some 58, op := Go.Op.nilCheck (Go.Operand.tmp 53), type := 0, pos := "read.go:140", after := #[{ on := 1, ground := Go.Ground.data }, { on := 0, ground := Go.Ground.phase }, { on := 1, ground := Go.Ground.phase }, { on := 2, ground := Go.Ground.phase }, { on := 3, ground := Go.Ground.phase }, { on := 4, ground := Go.Ground.phase }, { on := 5, ground := Go.Ground.phase }, { on := 6, ground := Go.Ground.textOnly Go.Departure.lateStores }], guard := Option.none }) (v := ?_) rfl (by kernel_rfl) (by kernel_rfl) (by kernel_rfl) (fun _ _ _ h => h) (Or.inl ⟨by rfl, ?_⟩) hHeld ?_
  rotate_left
  · intro W hSw
    (try dsimp only at hSw)
    go_simp
    (try with_reducible rfl)
  (try simp only [Act.put, List.setIfInBounds_toArray, List.set_cons_zero, List.set_cons_succ])
  refine wpAnyH_ready (rs := [8]) (by kernel_rfl) (by simp) ?_
  refine AllReadyH.cons (o := { dst := Option.none, op := Go.Op.store 3 (Go.Operand.tmp 58) (Go.Operand.tmp 56), type := 0, pos := "read.go:140", after := #[{ on := 7, ground := Go.Ground.data }, { on := 5, ground := Go.Ground.data }, { on := 3, ground := Go.Ground.chain }, { on := 0, ground := Go.Ground.phase }, { on := 1, ground := Go.Ground.phase }, { on := 2, ground := Go.Ground.phase }, { on := 3, ground := Go.Ground.phase }, { on := 4, ground := Go.Ground.phase }, { on := 5, ground := Go.Ground.phase }, { on := 6, ground := Go.Ground.textOnly Go.Departure.lateStores }], guard := Option.none }) rfl (fun K hK => ?_) AllReadyH.nil
  go_simp
  skip
  refine hK.out _ _ (SN.out _ _ K2.out) (fun hHeld => ?_)
  clear hK K
  (try simp only [Act.put, List.setIfInBounds_toArray, List.set_cons_zero, List.set_cons_succ])
  refine wpAnyH_take (i := 9) (oi := { dst := Option.some 5, op := Go.Op.assign (Go.Operand.tmp 57), type := 4, pos := "read.go:140", after := #[{ on := 6, ground := Go.Ground.data }, { on := 8, ground := Go.Ground.chain }, { on := 0, ground := Go.Ground.phase }, { on := 1, ground := Go.Ground.phase }, { on := 2, ground := Go.Ground.phase }, { on := 3, ground := Go.Ground.phase }, { on := 4, ground := Go.Ground.phase }, { on := 5, ground := Go.Ground.phase }, { on := 6, ground := Go.Ground.phase }, { on := 7, ground := Go.Ground.phase }, { on := 8, ground := Go.Ground.phase }], guard := Option.none }) (v := ?_) rfl (by kernel_rfl) (by kernel_rfl) (by kernel_rfl) (fun _ _ _ h => h) (Or.inl ⟨by rfl, ?_⟩) hHeld ?_
  rotate_left
  · intro W hSw
    (try dsimp only at hSw)
    go_simp
    (try with_reducible rfl)
  (try simp only [Act.put, List.setIfInBounds_toArray, List.set_cons_zero, List.set_cons_succ])
  refine wpAnyH_done (by kernel_rfl) ?_ _
  clear hHeld
  go_wp2
  go_ret
  exact ⟨rfl, DRP.out _ _ K2.out⟩
set_option maxHeartbeats 1600000 in
set_option maxRecDepth 1000000 in
theorem rw_fre {P o : Nat} {C : List Value} {x : List UInt8} {z : Value} {cs : List Comp} {w : World} (hE : En w) (hz : C[o]? = some z) (hx : x.length ≤ 140737488355328) (A : All (blkC P C 36 :: cs) w) :
    Calls Tryz.prog 133 #[thV P (.fre o), .string ⟨x.toArray⟩] w (RWPost P o C (decide (x = [102, 114, 101, 115, 104]) || decide (x = [111, 108, 100])) (.bool (decide (x = [102, 114, 101, 115, 104]))) cs) := by
  have HA := hid A
  have SF : Hid (∀ W, All (blkC P C 36 :: cs) W → W.cell? ⟨P, o, none⟩ = some z ∧ W.frozen? ⟨P, o, none⟩ = false ∧ P < W.heap.size) := hid (fun W hW => ⟨cell_in (P := P) hW (t := 36) (List.mem_cons_self) hz, free_at (hW.blk (g := P) (vs := C) (t := 36) (List.mem_cons_self)) o, hW.1.2.2 P (by simp [blkC])⟩)
  obtain ⟨s1, s2, s3⟩ := SF.out _ HA.out
  have K2 := hid (HA.out.setBlk o (.bool (decide (x = [102, 114, 101, 115, 104]))))
  have s4 : (w.setCell ⟨P, o, none⟩ (.bool (decide (x = [102, 114, 101, 115, 104])))).cell? ⟨P, o, none⟩ = some (.bool (decide (x = [102, 114, 101, 115, 104]))) := by
    rw [cell_at (K2.out.blk (g := P) (vs := C.set o (.bool (decide (x = [102, 114, 101, 115, 104])))) (t := 36) (List.mem_cons_self)), List.getElem?_toArray, List.getElem?_set_self ((List.getElem?_eq_some_iff.1 hz).1)]
  have q1 : ((⟨x.toArray⟩ : ByteArray).toList == [102, 114, 101, 115, 104]) = decide (x = [102, 114, 101, 115, 104]) := by rw [Lib.toList_data, Bool.eq_iff_iff]; simp
  have q2 : ((⟨x.toArray⟩ : ByteArray).toList == [111, 108, 100]) = decide (x = [111, 108, 100]) := by rw [Lib.toList_data, Bool.eq_iff_iff]; simp
  clear A hE hz SF
  simp only [thV]
  unfold RWPost
  generalize decide (x = [102, 114, 101, 115, 104]) = B1 at *
  generalize decide (x = [111, 108, 100]) = B2 at *
  generalize ByteArray.mk x.toArray = X at *
  have ta0 : ∀ W : World, (Instr.typeAssert (.iface 101 (.pointer (some ⟨P, o, none⟩))) 20 97 true).run Tryz.prog W = .ok (.tuple #[.pointer none, .bool false]) W := fun W => by kernel_rfl
  have ta1 : ∀ W : World, (Instr.typeAssert (.iface 101 (.pointer (some ⟨P, o, none⟩))) 20 98 true).run Tryz.prog W = .ok (.tuple #[.pointer none, .bool false]) W := fun W => by kernel_rfl
  have ta2 : ∀ W : World, (Instr.typeAssert (.iface 101 (.pointer (some ⟨P, o, none⟩))) 20 101 true).run Tryz.prog W = .ok (.tuple #[.pointer (some ⟨P, o, none⟩), .bool true]) W := fun W => by kernel_rfl
  cases B1
  all_goals
    go_enter Tryz.func133, Tryz.ntmps133
    go_wp2
    go_ret
    exact ⟨by simp, K2.out⟩
set_option maxHeartbeats 1600000 in
set_option maxRecDepth 1000000 in
theorem rw_dat {P o : Nat} {C : List Value} {x : List UInt8} {z : Value} {cs : List Comp} {w : World} (hE : En w) (hz : C[o]? = some z) (hx : x.length ≤ 140737488355328) (A : All (blkC P C 36 :: cs) w) :
    Calls Tryz.prog 133 #[thV P (.dat o), .string ⟨x.toArray⟩] w (fun e w1 => ∃ v, e = .returned (.bool (datR x).isSome) ∧ All (blkC P (C.set o v) 36 :: ownC 5 v (cellsB ((datR x).getD [])) :: cs) w1) := by
  have HA := hid A
  have SF : Hid (∀ W, All (blkC P C 36 :: cs) W → W.cell? ⟨P, o, none⟩ = some z ∧ W.frozen? ⟨P, o, none⟩ = false ∧ P < W.heap.size) := hid (fun W hW => ⟨cell_in (P := P) hW (t := 36) (List.mem_cons_self) hz, free_at (hW.blk (g := P) (vs := C) (t := 36) (List.mem_cons_self)) o, hW.1.2.2 P (by simp [blkC])⟩)
  have NA := hid (readData_any (l := x) HA.out hx)
  have SF2 : Hid (∀ v l W, All (ownC 5 v l :: blkC P C 36 :: cs) W → W.cell? ⟨P, o, none⟩ = some z ∧ W.frozen? ⟨P, o, none⟩ = false ∧ P < W.heap.size) := hid (fun v l W hW => SF.out W hW.tail)
  clear A hE hz SF
  simp only [thV]
  generalize ByteArray.mk x.toArray = X at *
  have ta0 : ∀ W : World, (Instr.typeAssert (.iface 141 (.pointer (some ⟨P, o, none⟩))) 20 97 true).run Tryz.prog W = .ok (.tuple #[.pointer none, .bool false]) W := fun W => by kernel_rfl
  have ta1 : ∀ W : World, (Instr.typeAssert (.iface 141 (.pointer (some ⟨P, o, none⟩))) 20 98 true).run Tryz.prog W = .ok (.tuple #[.pointer none, .bool false]) W := fun W => by kernel_rfl
  have ta2 : ∀ W : World, (Instr.typeAssert (.iface 141 (.pointer (some ⟨P, o, none⟩))) 20 101 true).run Tryz.prog W = .ok (.tuple #[.pointer none, .bool false]) W := fun W => by kernel_rfl
  have ta3 : ∀ W : World, (Instr.typeAssert (.iface 141 (.pointer (some ⟨P, o, none⟩))) 20 140 true).run Tryz.prog W = .ok (.tuple #[.agg #[.pointer none], .bool false]) W := fun W => by kernel_rfl
  have ta4 : ∀ W : World, (Instr.typeAssert (.iface 141 (.pointer (some ⟨P, o, none⟩))) 20 141 true).run Tryz.prog W = .ok (.tuple #[.pointer (some ⟨P, o, none⟩), .bool true]) W := fun W => by kernel_rfl
  go_enter Tryz.func133, Tryz.ntmps133
  go_wp2_with (go_at_call 151; refine NA.out.mono ?_; rintro e w1 ⟨v1, rfl, A1⟩; obtain ⟨ao1, c1, rfl⟩ := owns_form A1.1.2.1; obtain ⟨s1, s2, s3⟩ := SF2.out _ _ _ A1; have K2 := hid (A1.swap.setBlk o (.slice ao1 (cellsB ((datR x).getD [])).length c1)); clear A1)
  go_ret
  exact ⟨_, rfl, K2.out⟩
end Go.Proofs.YtfeppannfcbakaaGreatDoor

namespace Go.Proofs.YtfeppannfcbakaaGreatDoor
open Go.RowKit
set_option linter.unusedVariables false
set_option maxRecDepth 100000

/-- An op written into an event's cells. -/
def setOp (C : List Value) (o : Nat) (x : OpR) : List Value := ((((C.set o (.int .i64 x.k)).set (o + 1) (.string ⟨x.nm.toArray⟩)).set (o + 2) (.string ⟨x.tx.toArray⟩)).set (o + 3) (.int .i64 (x.n : Int))).set (o + 4) (.int .i64 (x.m : Int))
theorem readO_le (l : Ws) : (readO l).k ≤ l.length := by
  unfold readO
  split
  · simp [RO.bad]
  · split
    · simp [RO.bad]
    · split
      · simp [RO.bad]
      · split
        · simp [RO.bad]
        · split
          · simp [RO.bad]
          · simp only; omega
set_option maxHeartbeats 3200000 in
set_option maxRecDepth 1000000 in
theorem rop_any {R P o : Nat} {s : Value} {l : Ws} {C : List Value} {cs : List Comp} {w w0 : World} (hE : ∀ W, All cs W → En W) (h0 : Rt w0 s l) (hi : inC w0 ∈ cs) (hl : l.length ≤ 140737488355328) (hs : ∀ x ∈ l, x.length ≤ 140737488355328) (ho : o + 5 ≤ C.length) (A : All (blkC R [s] 124 :: blkC P C 36 :: cs) w) :
    Calls Tryz.prog 131 #[.pointer (some ⟨R, 0, none⟩), .pointer (some ⟨P, o, none⟩)] w fun e w' => e = .returned (.int .i64 (readO l).e) ∧ ∃ s', Rt w0 s' (l.drop (readO l).k) ∧ All (blkC R [s'] 124 :: blkC P (setOp C o (readO l).o) 36 :: cs) w' := by
  have HA := hid A
  have CO := hid (ReadOp_any (l := l) (s := s) A (fun W hW => h0.later (hW.into (List.mem_cons_of_mem _ (List.mem_cons_of_mem _ hi)))) (fun W hW => (hE W hW.tail.tail).v) (fun W hW => (hE W hW.tail.tail).t) (fun W hW => (hE W hW.tail.tail).f) hl hs)
  have hk := readO_le l
  obtain ⟨ao, c, rfl⟩ := h0.form
  obtain ⟨ao', c', hsl, hR'⟩ := cut_l h0 hk rfl
  have HR := hid hR'
  have FC : Hid (∀ W, All (blkC R [.slice ao l.length c] 124 :: blkC P C 36 :: cs) W → W.cell? ⟨R, 0, none⟩ = some (.slice ao l.length c) ∧ W.frozen? ⟨R, 0, none⟩ = false ∧ R < W.heap.size) := hid (fun W hW => ⟨cell_in (P := R) (o := 0) hW (t := 124) (List.mem_cons_self) rfl, free_at (hW.blk (g := R) (t := 124) (List.mem_cons_self)) 0, hW.1.2.2 R (by simp [blkC])⟩)
  obtain ⟨f1, f2, f3⟩ := FC.out _ A
  unfold ROPost at CO
  obtain ⟨r, hr⟩ : ∃ r, Hid (r = readO l) := ⟨_, hid rfl⟩
  rw [← hr.out] at CO hsl HR ⊢
  clear A hE h0 hi hl hs hk hR' hr
  have SM : Hid (∀ W S ds, All (blkC R [S] 124 :: blkC P C 36 :: ds) W → All (blkC R [S] 124 :: blkC P (setOp C o r.o) 36 :: ds) (W.setCells P o r.o.vals)) := hid (fun W S ds hW => (((((hW.swap.setBlk o (.int .i64 r.o.k)).setBlk (o + 1) (.string ⟨r.o.nm.toArray⟩)).setBlk (o + 2) (.string ⟨r.o.tx.toArray⟩)).setBlk (o + 3) (.int .i64 (r.o.n : Int))).setBlk (o + 4) (.int .i64 (r.o.m : Int))).swap)
  have TH : Hid (∀ W S ds, All (blkC R [S] 124 :: blkC P C 36 :: ds) W → W.there P o r.o.vals.toArray.size) := hid (fun W S ds hW q hq => by
    have hb := hW.blk (g := P) (vs := C) (t := 36) (by simp)
    have hq' : q < 5 := hq
    refine ⟨?_, free_at hb _⟩
    rw [cell_at hb, List.getElem?_toArray, List.getElem?_eq_getElem (by omega)]
    rfl)
  have FC3 : Hid (∀ W S C' ds, All (blkC R [S] 124 :: blkC P C' 36 :: ds) W → W.cell? ⟨R, 0, none⟩ = some S ∧ W.frozen? ⟨R, 0, none⟩ = false ∧ R < W.heap.size) := hid (fun W S C' ds hW => ⟨cell_in (P := R) (o := 0) hW (t := 124) (List.mem_cons_self) rfl, free_at (hW.blk (g := R) (t := 124) (List.mem_cons_self)) 0, hW.1.2.2 R (by simp [blkC])⟩)
  have I24 : Hid ((Tryz.prog.info? 24).map (·.size) = some r.o.vals.toArray.size) := hid (by kernel_rfl)
  have O24 : Hid (r.o.vals.toArray.all (·.oneCell') = true) := hid (by simp [OpR.vals, Value.oneCell'])
  have Z24 : Hid (5 = r.o.vals.toArray.size) := hid rfl
  have EV : opV r.o.k ⟨r.o.nm.toArray⟩ ⟨r.o.tx.toArray⟩ (r.o.n : Int) (r.o.m : Int) = .agg r.o.vals.toArray := rfl
  rw [EV] at CO
  clear EV FC ho
  generalize setOp C o r.o = C2 at *
  generalize r.o.vals = VL at *
  generalize l.length = n at *
  go_enter Tryz.func131, Tryz.ntmps131
  go_upto_region 2 with (first | (go_at_call 148; refine CO.out.mono ?_; rintro e w1 ⟨rfl, A1⟩; have K1 := hid A1; clear A1) | (refine wpList_store_row rfl 24 _ _ rfl w1.heap.size VL.toArray rfl rfl 24 _ (heap_alloc_new w1 _) I24.out Z24.out O24.out ?_; rw [World.setRow_alloc_new]))
  have K2 : Hid (All (blkC R [.slice ao n c] 124 :: blkC P C 36 :: blkC w1.heap.size VL 24 :: cs) (w1.alloc (.cells VL.toArray 24)).drew) := hid ((K1.out.addBlk VL 24).perm (by exact (List.Perm.swap _ _ _).trans ((List.Perm.swap _ _ _).cons _))).drew
  have RG : Hid (∀ W S C', All (blkC R [S] 124 :: blkC P C' 36 :: blkC w1.heap.size VL 24 :: cs) W → W.rangeAt w1.heap.size 0 VL) := hid (fun W S C' hW q u hu => by
    rw [Nat.zero_add]
    exact cell_in (P := w1.heap.size) hW (t := 24) (List.mem_cons_of_mem _ (List.mem_cons_of_mem _ (List.mem_cons_self))) hu)
  clear K1 CO f1 f2 f3
  refine wp_region_held_drew (S := (fun W => W.rangeAt w1.heap.size 0 VL)) (by kernel_rfl) (RG.out _ _ _ K2.out) (fun hHeld => ?_)
  generalize World.drew _ = wd at *
  obtain ⟨g1, g2, g3⟩ := FC3.out _ _ _ _ K2.out
  have K3 := hid (SM.out _ _ _ K2.out)
  have T2 := hid (TH.out _ _ _ K2.out)
  obtain ⟨j1, j2, j3⟩ := FC3.out _ _ _ _ K3.out
  have K4 := hid (K3.out.setBlk 0 (.slice ao' (n - r.k) c'))
  refine wpAnyH_take (i := 0) (oi := { dst := Option.some 17, op := Go.Op.move (Go.Operand.tmp 1), type := 99, pos := "read.go:116", after := #[], guard := Option.none }) (v := ?_) rfl (by kernel_rfl) (by kernel_rfl) (by kernel_rfl) (fun _ _ _ h => h) (Or.inl ⟨by rfl, ?_⟩) hHeld ?_
  rotate_left
  · intro W hSw
    (try dsimp only at hSw)
    go_simp
    (try with_reducible rfl)
  (try simp only [Act.put, List.setIfInBounds_toArray, List.set_cons_zero, List.set_cons_succ])
  refine wpAnyH_take (i := 1) (oi := { dst := Option.some 18, op := Go.Op.move (Go.Operand.tmp 0), type := 158, pos := "read.go:116", after := #[{ on := 10, ground := Go.Ground.gcOnly Go.Departure.lateStores }], guard := Option.none }) (v := ?_) rfl (by kernel_rfl) (by kernel_rfl) (by kernel_rfl) (fun _ _ _ h => h) (Or.inl ⟨by rfl, ?_⟩) hHeld ?_
  rotate_left
  · intro W hSw
    (try dsimp only at hSw)
    go_simp
    (try with_reducible rfl)
  (try simp only [Act.put, List.setIfInBounds_toArray, List.set_cons_zero, List.set_cons_succ])
  refine wpAnyH_take (i := 3) (oi := { dst := Option.some 20, op := Go.Op.move (Go.Operand.tmp 0), type := 158, pos := "read.go:116", after := #[], guard := Option.none }) (v := ?_) rfl (by kernel_rfl) (by kernel_rfl) (by kernel_rfl) (fun _ _ _ h => h) (Or.inl ⟨by rfl, ?_⟩) hHeld ?_
  rotate_left
  · intro W hSw
    (try dsimp only at hSw)
    go_simp
    (try with_reducible rfl)
  (try simp only [Act.put, List.setIfInBounds_toArray, List.set_cons_zero, List.set_cons_succ])
  refine wpAnyH_take (i := 4) (oi := { dst := Option.some 21, op := Go.Op.nilCheck (Go.Operand.tmp 20), type := 0, pos := "read.go:116", after := #[{ on := 3, ground := Go.Ground.data }], guard := Option.none }) (v := ?_) rfl (by kernel_rfl) (by kernel_rfl) (by kernel_rfl) (fun _ _ _ h => h) (Or.inl ⟨by rfl, ?_⟩) hHeld ?_
  rotate_left
  · intro W hSw
    (try dsimp only at hSw)
    go_simp
    (try with_reducible rfl)
  (try simp only [Act.put, List.setIfInBounds_toArray, List.set_cons_zero, List.set_cons_succ])
  refine wpAnyH_take (i := 5) (oi := { dst := Option.some 22, op := Go.Op.fieldAddr 124 (Go.Operand.tmp 21) 0, type := 0, pos := "read.go:116", after := #[{ on := 4, ground := Go.Ground.data }], guard := Option.none }) (v := ?_) rfl (by kernel_rfl) (by kernel_rfl) (by kernel_rfl) (fun _ _ _ h => h) (Or.inl ⟨by rfl, ?_⟩) hHeld ?_
  rotate_left
  · intro W hSw
    (try dsimp only at hSw)
    go_simp
    (try with_reducible rfl)
  (try simp only [Act.put, List.setIfInBounds_toArray, List.set_cons_zero, List.set_cons_succ])
  refine wpAnyH_take (i := 7) (oi := { dst := Option.some 24, op := Go.Op.move (Go.Operand.tmp 6), type := 3, pos := "read.go:116", after := #[], guard := Option.none }) (v := ?_) rfl (by kernel_rfl) (by kernel_rfl) (by kernel_rfl) (fun _ _ _ h => h) (Or.inl ⟨by rfl, ?_⟩) hHeld ?_
  rotate_left
  · intro W hSw
    (try dsimp only at hSw)
    go_simp
    (try with_reducible rfl)
  (try simp only [Act.put, List.setIfInBounds_toArray, List.set_cons_zero, List.set_cons_succ])
  refine wpAnyH_take (i := 2) (oi := { dst := Option.some 19, op := Go.Op.load 24 (Go.Operand.tmp 5), type := 24, pos := "read.go:116", after := #[], guard := Option.none }) (v := .agg VL.toArray) rfl (by kernel_rfl) (by kernel_rfl) (by kernel_rfl) (fun _ _ _ h => h) (yieldsIf_load_mid (by rfl) 24 (.tmp 5) rfl w1.heap.size 0 rfl VL _ (fun W hSw => hSw) Tryz.underlying24 rfl I24.out) hHeld ?_
  (try simp only [Act.put, List.setIfInBounds_toArray, List.set_cons_zero, List.set_cons_succ])
  refine wpAnyH_ready (rs := [6]) (by kernel_rfl) (by simp) ?_
  refine AllReadyH.cons (o := { dst := Option.some 23, op := Go.Op.load 27 (Go.Operand.tmp 22), type := 27, pos := "read.go:116", after := #[{ on := 5, ground := Go.Ground.data }], guard := Option.none }) rfl (fun K hK => ?_) AllReadyH.nil
  go_simp
  skip
  refine hK.out _ _ (RG.out _ _ _ K2.out) (fun hHeld => ?_)
  clear hK K
  (try simp only [Act.put, List.setIfInBounds_toArray, List.set_cons_zero, List.set_cons_succ])
  refine wpAnyH_take (i := 8) (oi := { dst := Option.some 25, op := Go.Op.slice 27 (Go.Operand.tmp 23) (Option.some (Go.Operand.tmp 24)) Option.none Option.none, type := 27, pos := "read.go:116", after := #[{ on := 6, ground := Go.Ground.data }, { on := 7, ground := Go.Ground.data }], guard := Option.none }) (v := ?_) rfl (by kernel_rfl) (by kernel_rfl) (by kernel_rfl) (fun _ _ _ h => h) (Or.inl ⟨by rfl, ?_⟩) hHeld ?_
  rotate_left
  · intro W hSw
    (try dsimp only at hSw)
    go_simp
    (try with_reducible rfl)
  (try simp only [Act.put, List.setIfInBounds_toArray, List.set_cons_zero, List.set_cons_succ])
  refine wpAnyH_take (i := 9) (oi := { dst := Option.some 26, op := Go.Op.nilCheck (Go.Operand.tmp 17), type := 0, pos := "read.go:116", after := #[{ on := 0, ground := Go.Ground.data }, { on := 0, ground := Go.Ground.phase }, { on := 1, ground := Go.Ground.textOnly Go.Departure.lateStores }, { on := 2, ground := Go.Ground.phase }, { on := 3, ground := Go.Ground.textOnly Go.Departure.lateStores }, { on := 4, ground := Go.Ground.textOnly Go.Departure.lateStoresUnsure }, { on := 5, ground := Go.Ground.textOnly Go.Departure.lateStoresUnsure }, { on := 6, ground := Go.Ground.phase }, { on := 7, ground := Go.Ground.textOnly Go.Departure.lateStores }, { on := 8, ground := Go.Ground.textOnly Go.Departure.lateStoresUnsure }], guard := Option.none }) (v := ?_) rfl (by kernel_rfl) (by kernel_rfl) (by kernel_rfl) (fun _ _ _ h => h) (Or.inl ⟨by rfl, ?_⟩) hHeld ?_
  rotate_left
  · intro W hSw
    (try dsimp only at hSw)
    go_simp
    (try with_reducible rfl)
  (try simp only [Act.put, List.setIfInBounds_toArray, List.set_cons_zero, List.set_cons_succ])
  refine wpAnyH_ready (rs := [10]) (by kernel_rfl) (by simp) ?_
  refine AllReadyH.cons (o := { dst := Option.none, op := Go.Op.store 24 (Go.Operand.tmp 26) (Go.Operand.tmp 19), type := 0, pos := "read.go:116", after := #[{ on := 9, ground := Go.Ground.data }, { on := 2, ground := Go.Ground.data }, { on := 0, ground := Go.Ground.phase }, { on := 1, ground := Go.Ground.textOnly Go.Departure.lateStores }, { on := 2, ground := Go.Ground.phase }, { on := 3, ground := Go.Ground.textOnly Go.Departure.lateStores }, { on := 4, ground := Go.Ground.textOnly Go.Departure.lateStoresUnsure }, { on := 5, ground := Go.Ground.textOnly Go.Departure.lateStoresUnsure }, { on := 6, ground := Go.Ground.phase }, { on := 7, ground := Go.Ground.textOnly Go.Departure.lateStores }, { on := 8, ground := Go.Ground.textOnly Go.Departure.lateStoresUnsure }], guard := Option.none }) rfl (fun K hK => ?_) AllReadyH.nil
  rw [if_pos (by rfl)]
  refine wp_store_mid 24 _ _ rfl P o VL.toArray rfl rfl T2.out I24.out O24.out ?_; rw [List.toList_toArray]
  refine hK.out _ _ (RG.out _ _ _ K3.out) (fun hHeld => ?_)
  clear hK K
  (try simp only [Act.put])
  refine wpAnyH_take (i := 11) (oi := { dst := Option.some 27, op := Go.Op.nilCheck (Go.Operand.tmp 18), type := 0, pos := "read.go:116", after := #[{ on := 1, ground := Go.Ground.data }, { on := 0, ground := Go.Ground.phase }, { on := 1, ground := Go.Ground.phase }, { on := 2, ground := Go.Ground.phase }, { on := 3, ground := Go.Ground.phase }, { on := 4, ground := Go.Ground.phase }, { on := 5, ground := Go.Ground.phase }, { on := 6, ground := Go.Ground.phase }, { on := 7, ground := Go.Ground.phase }, { on := 8, ground := Go.Ground.phase }, { on := 9, ground := Go.Ground.phase }, { on := 10, ground := Go.Ground.phase }], guard := Option.none }) (v := ?_) rfl (by kernel_rfl) (by kernel_rfl) (by kernel_rfl) (fun _ _ _ h => h) (Or.inl ⟨by rfl, ?_⟩) hHeld ?_
  rotate_left
  · intro W hSw
    (try dsimp only at hSw)
    go_simp
    (try with_reducible rfl)
  (try simp only [Act.put, List.setIfInBounds_toArray, List.set_cons_zero, List.set_cons_succ])
  refine wpAnyH_take (i := 12) (oi := { dst := Option.some 28, op := Go.Op.fieldAddr 124 (Go.Operand.tmp 27) 0, type := 0, pos := "read.go:116", after := #[{ on := 11, ground := Go.Ground.data }, { on := 0, ground := Go.Ground.phase }, { on := 1, ground := Go.Ground.phase }, { on := 2, ground := Go.Ground.phase }, { on := 3, ground := Go.Ground.phase }, { on := 4, ground := Go.Ground.phase }, { on := 5, ground := Go.Ground.phase }, { on := 6, ground := Go.Ground.phase }, { on := 7, ground := Go.Ground.phase }, { on := 8, ground := Go.Ground.phase }, { on := 9, ground := Go.Ground.phase }, { on := 10, ground := Go.Ground.phase }], guard := Option.none }) (v := ?_) rfl (by kernel_rfl) (by kernel_rfl) (by kernel_rfl) (fun _ _ _ h => h) (Or.inl ⟨by rfl, ?_⟩) hHeld ?_
  rotate_left
  · intro W hSw
    (try dsimp only at hSw)
    go_simp
    (try with_reducible rfl)
  (try simp only [Act.put, List.setIfInBounds_toArray, List.set_cons_zero, List.set_cons_succ])
  refine wpAnyH_ready (rs := [13]) (by kernel_rfl) (by simp) ?_
  refine AllReadyH.cons (o := { dst := Option.none, op := Go.Op.store 27 (Go.Operand.tmp 28) (Go.Operand.tmp 25), type := 0, pos := "read.go:116", after := #[{ on := 12, ground := Go.Ground.data }, { on := 8, ground := Go.Ground.data }, { on := 10, ground := Go.Ground.chain }, { on := 0, ground := Go.Ground.phase }, { on := 1, ground := Go.Ground.phase }, { on := 2, ground := Go.Ground.phase }, { on := 3, ground := Go.Ground.phase }, { on := 4, ground := Go.Ground.phase }, { on := 5, ground := Go.Ground.phase }, { on := 6, ground := Go.Ground.phase }, { on := 7, ground := Go.Ground.phase }, { on := 8, ground := Go.Ground.phase }, { on := 9, ground := Go.Ground.phase }, { on := 10, ground := Go.Ground.phase }], guard := Option.none }) rfl (fun K hK => ?_) AllReadyH.nil
  go_simp
  skip
  refine hK.out _ _ (RG.out _ _ _ K4.out) (fun hHeld => ?_)
  clear hK K
  (try simp only [Act.put, List.setIfInBounds_toArray, List.set_cons_zero, List.set_cons_succ])
  refine wpAnyH_done (by kernel_rfl) ?_ _
  clear hHeld
  have K5 := hid (K4.out.perm (((List.Perm.swap _ _ _).cons _).trans (List.Perm.swap _ _ _))).tail
  clear K4 K3 K2
  go_wp2
  go_ret
  exact ⟨rfl, _, HR.out, K5.out⟩
def setRes (C : List Value) (o : Nat) (c n : Int) (v : Value) : List Value := ((C.set o (.int .i64 c)).set (o + 1) (.int .i64 n)).set (o + 2) v
theorem readR_le (l : Ws) : (readR l).k ≤ l.length := by
  unfold readR
  split
  · simp [RR.bad]
  · split
    · simp [RR.bad]
    · unfold readD
      split
      · simp [RR.bad]
      · split
        · simp [RR.bad]
        · split
          · simp [RR.bad]
          · split
            · simp [RR.bad]
            · split
              · simp [RR.bad]
              · split
                · simp [RR.bad]
                · simp only; omega
    · simp
set_option maxHeartbeats 3200000 in
set_option maxRecDepth 1000000 in
theorem rres_any {R P o : Nat} {s : Value} {l : Ws} {C : List Value} {cs : List Comp} {w w0 : World} (hE : ∀ W, All cs W → En W) (h0 : Rt w0 s l) (hi : inC w0 ∈ cs) (hl : l.length * 16 ≤ 140737488355328) (hs : ∀ x ∈ l, x.length ≤ 140737488355328) (ho : o + 3 ≤ C.length) (A : All (blkC R [s] 124 :: blkC P C 36 :: cs) w) :
    Calls Tryz.prog 132 #[.pointer (some ⟨R, 0, none⟩), .pointer (some ⟨P, o, none⟩)] w fun e w' => e = .returned (.int .i64 (readR l).e) ∧ ∃ s' v, Rt w0 s' (l.drop (readR l).k) ∧ All (blkC R [s'] 124 :: blkC P (setRes C o (readR l).c (readR l).n v) 36 :: ownC 9 v (txW (readR l).items) :: cs) w' := by
  have HA := hid A
  have CO := hid (ReadResult_any (l := l) (s := s) A (hE _ A.tail.tail).v (hE _ A.tail.tail).c (h0.later (A.into (List.mem_cons_of_mem _ (List.mem_cons_of_mem _ hi)))) hl hs)
  have hk := readR_le l
  obtain ⟨ao, c, rfl⟩ := h0.form
  obtain ⟨ao', c', hsl, hR'⟩ := cut_l h0 hk rfl
  have HR := hid hR'
  have FC3 : Hid (∀ W S C' ds, All (blkC R [S] 124 :: blkC P C' 36 :: ds) W → W.cell? ⟨R, 0, none⟩ = some S ∧ W.frozen? ⟨R, 0, none⟩ = false ∧ R < W.heap.size) := hid (fun W S C' ds hW => ⟨cell_in (P := R) (o := 0) hW (t := 124) (List.mem_cons_self) rfl, free_at (hW.blk (g := R) (t := 124) (List.mem_cons_self)) 0, hW.1.2.2 R (by simp [blkC])⟩)
  obtain ⟨f1, f2, f3⟩ := FC3.out _ _ _ _ A
  unfold RRPost at CO
  obtain ⟨r, hr⟩ : ∃ r, Hid (r = readR l) := ⟨_, hid rfl⟩
  rw [← hr.out] at CO hsl HR ⊢
  clear A hE h0 hi hl hs hk hR' hr
  have SM : Hid (∀ W S ds V1, All (blkC R [S] 124 :: blkC P C 36 :: ds) W → All (blkC R [S] 124 :: blkC P (setRes C o r.c r.n V1) 36 :: ds) (W.setCells P o [.int .i64 r.c, .int .i64 r.n, V1])) := hid (fun W S ds V1 hW => (((hW.swap.setBlk o (.int .i64 r.c)).setBlk (o + 1) (.int .i64 r.n)).setBlk (o + 2) V1).swap)
  have TH : Hid (∀ W S ds (V1 : Value), All (blkC R [S] 124 :: blkC P C 36 :: ds) W → W.there P o (#[.int .i64 r.c, .int .i64 r.n, V1] : Array Value).size) := hid (fun W S ds V1 hW q hq => by
    have hb := hW.blk (g := P) (vs := C) (t := 36) (by simp)
    have hq' : q < 3 := hq
    refine ⟨?_, free_at hb _⟩
    rw [cell_at hb, List.getElem?_toArray, List.getElem?_eq_getElem (by omega)]
    rfl)
  have I29 : Hid (∀ V1 : Value, (Tryz.prog.info? 29).map (·.size) = some ([.int .i64 r.c, .int .i64 r.n, V1] : List Value).length) := hid (fun V1 => by kernel_rfl)
  clear ho
  generalize l.length = n at *
  go_enter Tryz.func132, Tryz.ntmps132
  go_upto_region 2 with (first | (go_at_call 149; refine CO.out.mono ?_; rintro e w1 ⟨V1, rfl, A1⟩; have O29 : Hid ((#[.int .i64 r.c, .int .i64 r.n, V1] : Array Value).all (·.oneCell') = true) := hid (by (obtain ⟨a1, b1, e1⟩ := owns_form A1.1.2.1); rw [e1]; simp [Value.oneCell']); have K1 := hid A1; clear A1) | (refine wpList_store_row rfl 29 _ _ rfl w1.heap.size #[.int .i64 r.c, .int .i64 r.n, V1] rfl rfl 29 _ (heap_alloc_new w1 _) (I29.out V1) rfl O29.out ?_; rw [World.setRow_alloc_new]))
  have K2 : Hid (All (blkC R [.slice ao n c] 124 :: blkC P C 36 :: blkC w1.heap.size [.int .i64 r.c, .int .i64 r.n, V1] 29 :: ownC 9 V1 (txW r.items) :: cs) (w1.alloc (.cells #[.int .i64 r.c, .int .i64 r.n, V1] 29)).drew) := hid ((K1.out.addBlk [.int .i64 r.c, .int .i64 r.n, V1] 29).perm (List.perm_append_comm (l₁ := [blkC w1.heap.size [.int .i64 r.c, .int .i64 r.n, V1] 29, ownC 9 V1 (txW r.items)]) (l₂ := [blkC R [.slice ao n c] 124, blkC P C 36]) |>.append_right cs)).drew
  have RG : Hid (∀ W S C', All (blkC R [S] 124 :: blkC P C' 36 :: blkC w1.heap.size [.int .i64 r.c, .int .i64 r.n, V1] 29 :: ownC 9 V1 (txW r.items) :: cs) W → W.rangeAt w1.heap.size 0 [.int .i64 r.c, .int .i64 r.n, V1]) := hid (fun W S C' hW q u hu => by
    rw [Nat.zero_add]
    exact cell_in (P := w1.heap.size) hW (t := 29) (List.mem_cons_of_mem _ (List.mem_cons_of_mem _ (List.mem_cons_self))) hu)
  clear K1 CO f1 f2 f3
  refine wp_region_held_drew (S := (fun W => W.rangeAt w1.heap.size 0 [.int .i64 r.c, .int .i64 r.n, V1])) (by kernel_rfl) (RG.out _ _ _ K2.out) (fun hHeld => ?_)
  generalize World.drew _ = wd at *
  obtain ⟨g1, g2, g3⟩ := FC3.out _ _ _ _ K2.out
  have K3 := hid (SM.out _ _ _ V1 K2.out)
  have T2 := hid (TH.out _ _ _ V1 K2.out)
  obtain ⟨j1, j2, j3⟩ := FC3.out _ _ _ _ K3.out
  have K4 := hid (K3.out.setBlk 0 (.slice ao' (n - r.k) c'))
  refine wpAnyH_take (i := 0) (oi := { dst := Option.some 17, op := Go.Op.move (Go.Operand.tmp 1), type := 100, pos := "read.go:122", after := #[], guard := Option.none }) (v := ?_) rfl (by kernel_rfl) (by kernel_rfl) (by kernel_rfl) (fun _ _ _ h => h) (Or.inl ⟨by rfl, ?_⟩) hHeld ?_
  rotate_left
  · intro W hSw
    (try dsimp only at hSw)
    go_simp
    (try with_reducible rfl)
  (try simp only [Act.put, List.setIfInBounds_toArray, List.set_cons_zero, List.set_cons_succ])
  refine wpAnyH_take (i := 1) (oi := { dst := Option.some 18, op := Go.Op.move (Go.Operand.tmp 0), type := 158, pos := "read.go:122", after := #[{ on := 10, ground := Go.Ground.gcOnly Go.Departure.lateStores }], guard := Option.none }) (v := ?_) rfl (by kernel_rfl) (by kernel_rfl) (by kernel_rfl) (fun _ _ _ h => h) (Or.inl ⟨by rfl, ?_⟩) hHeld ?_
  rotate_left
  · intro W hSw
    (try dsimp only at hSw)
    go_simp
    (try with_reducible rfl)
  (try simp only [Act.put, List.setIfInBounds_toArray, List.set_cons_zero, List.set_cons_succ])
  refine wpAnyH_take (i := 3) (oi := { dst := Option.some 20, op := Go.Op.move (Go.Operand.tmp 0), type := 158, pos := "read.go:122", after := #[], guard := Option.none }) (v := ?_) rfl (by kernel_rfl) (by kernel_rfl) (by kernel_rfl) (fun _ _ _ h => h) (Or.inl ⟨by rfl, ?_⟩) hHeld ?_
  rotate_left
  · intro W hSw
    (try dsimp only at hSw)
    go_simp
    (try with_reducible rfl)
  (try simp only [Act.put, List.setIfInBounds_toArray, List.set_cons_zero, List.set_cons_succ])
  refine wpAnyH_take (i := 4) (oi := { dst := Option.some 21, op := Go.Op.nilCheck (Go.Operand.tmp 20), type := 0, pos := "read.go:122", after := #[{ on := 3, ground := Go.Ground.data }], guard := Option.none }) (v := ?_) rfl (by kernel_rfl) (by kernel_rfl) (by kernel_rfl) (fun _ _ _ h => h) (Or.inl ⟨by rfl, ?_⟩) hHeld ?_
  rotate_left
  · intro W hSw
    (try dsimp only at hSw)
    go_simp
    (try with_reducible rfl)
  (try simp only [Act.put, List.setIfInBounds_toArray, List.set_cons_zero, List.set_cons_succ])
  refine wpAnyH_take (i := 5) (oi := { dst := Option.some 22, op := Go.Op.fieldAddr 124 (Go.Operand.tmp 21) 0, type := 0, pos := "read.go:122", after := #[{ on := 4, ground := Go.Ground.data }], guard := Option.none }) (v := ?_) rfl (by kernel_rfl) (by kernel_rfl) (by kernel_rfl) (fun _ _ _ h => h) (Or.inl ⟨by rfl, ?_⟩) hHeld ?_
  rotate_left
  · intro W hSw
    (try dsimp only at hSw)
    go_simp
    (try with_reducible rfl)
  (try simp only [Act.put, List.setIfInBounds_toArray, List.set_cons_zero, List.set_cons_succ])
  refine wpAnyH_take (i := 7) (oi := { dst := Option.some 24, op := Go.Op.move (Go.Operand.tmp 6), type := 3, pos := "read.go:122", after := #[], guard := Option.none }) (v := ?_) rfl (by kernel_rfl) (by kernel_rfl) (by kernel_rfl) (fun _ _ _ h => h) (Or.inl ⟨by rfl, ?_⟩) hHeld ?_
  rotate_left
  · intro W hSw
    (try dsimp only at hSw)
    go_simp
    (try with_reducible rfl)
  (try simp only [Act.put, List.setIfInBounds_toArray, List.set_cons_zero, List.set_cons_succ])
  refine wpAnyH_take (i := 2) (oi := { dst := Option.some 19, op := Go.Op.load 29 (Go.Operand.tmp 5), type := 29, pos := "read.go:122", after := #[], guard := Option.none }) (v := .agg [.int .i64 r.c, .int .i64 r.n, V1].toArray) rfl (by kernel_rfl) (by kernel_rfl) (by kernel_rfl) (fun _ _ _ h => h) (yieldsIf_load_mid (by rfl) 29 (.tmp 5) rfl w1.heap.size 0 rfl [.int .i64 r.c, .int .i64 r.n, V1] _ (fun W hSw => hSw) Tryz.underlying29 rfl (I29.out V1)) hHeld ?_
  (try simp only [Act.put, List.setIfInBounds_toArray, List.set_cons_zero, List.set_cons_succ])
  refine wpAnyH_ready (rs := [6]) (by kernel_rfl) (by simp) ?_
  refine AllReadyH.cons (o := { dst := Option.some 23, op := Go.Op.load 27 (Go.Operand.tmp 22), type := 27, pos := "read.go:122", after := #[{ on := 5, ground := Go.Ground.data }], guard := Option.none }) rfl (fun K hK => ?_) AllReadyH.nil
  go_simp
  skip
  refine hK.out _ _ (RG.out _ _ _ K2.out) (fun hHeld => ?_)
  clear hK K
  (try simp only [Act.put, List.setIfInBounds_toArray, List.set_cons_zero, List.set_cons_succ])
  refine wpAnyH_take (i := 8) (oi := { dst := Option.some 25, op := Go.Op.slice 27 (Go.Operand.tmp 23) (Option.some (Go.Operand.tmp 24)) Option.none Option.none, type := 27, pos := "read.go:122", after := #[{ on := 6, ground := Go.Ground.data }, { on := 7, ground := Go.Ground.data }], guard := Option.none }) (v := ?_) rfl (by kernel_rfl) (by kernel_rfl) (by kernel_rfl) (fun _ _ _ h => h) (Or.inl ⟨by rfl, ?_⟩) hHeld ?_
  rotate_left
  · intro W hSw
    (try dsimp only at hSw)
    go_simp
    (try with_reducible rfl)
  (try simp only [Act.put, List.setIfInBounds_toArray, List.set_cons_zero, List.set_cons_succ])
  refine wpAnyH_take (i := 9) (oi := { dst := Option.some 26, op := Go.Op.nilCheck (Go.Operand.tmp 17), type := 0, pos := "read.go:122", after := #[{ on := 0, ground := Go.Ground.data }, { on := 0, ground := Go.Ground.phase }, { on := 1, ground := Go.Ground.textOnly Go.Departure.lateStores }, { on := 2, ground := Go.Ground.phase }, { on := 3, ground := Go.Ground.textOnly Go.Departure.lateStores }, { on := 4, ground := Go.Ground.textOnly Go.Departure.lateStoresUnsure }, { on := 5, ground := Go.Ground.textOnly Go.Departure.lateStoresUnsure }, { on := 6, ground := Go.Ground.phase }, { on := 7, ground := Go.Ground.textOnly Go.Departure.lateStores }, { on := 8, ground := Go.Ground.textOnly Go.Departure.lateStoresUnsure }], guard := Option.none }) (v := ?_) rfl (by kernel_rfl) (by kernel_rfl) (by kernel_rfl) (fun _ _ _ h => h) (Or.inl ⟨by rfl, ?_⟩) hHeld ?_
  rotate_left
  · intro W hSw
    (try dsimp only at hSw)
    go_simp
    (try with_reducible rfl)
  (try simp only [Act.put, List.setIfInBounds_toArray, List.set_cons_zero, List.set_cons_succ])
  refine wpAnyH_ready (rs := [10]) (by kernel_rfl) (by simp) ?_
  refine AllReadyH.cons (o := { dst := Option.none, op := Go.Op.store 29 (Go.Operand.tmp 26) (Go.Operand.tmp 19), type := 0, pos := "read.go:122", after := #[{ on := 9, ground := Go.Ground.data }, { on := 2, ground := Go.Ground.data }, { on := 0, ground := Go.Ground.phase }, { on := 1, ground := Go.Ground.textOnly Go.Departure.lateStores }, { on := 2, ground := Go.Ground.phase }, { on := 3, ground := Go.Ground.textOnly Go.Departure.lateStores }, { on := 4, ground := Go.Ground.textOnly Go.Departure.lateStoresUnsure }, { on := 5, ground := Go.Ground.textOnly Go.Departure.lateStoresUnsure }, { on := 6, ground := Go.Ground.phase }, { on := 7, ground := Go.Ground.textOnly Go.Departure.lateStores }, { on := 8, ground := Go.Ground.textOnly Go.Departure.lateStoresUnsure }], guard := Option.none }) rfl (fun K hK => ?_) AllReadyH.nil
  rw [if_pos (by rfl)]
  refine wp_store_mid 29 _ _ rfl P o #[.int .i64 r.c, .int .i64 r.n, V1] rfl rfl T2.out (I29.out V1) O29.out ?_
  refine hK.out _ _ (RG.out _ _ _ K3.out) (fun hHeld => ?_)
  clear hK K
  (try simp only [Act.put])
  refine wpAnyH_take (i := 11) (oi := { dst := Option.some 27, op := Go.Op.nilCheck (Go.Operand.tmp 18), type := 0, pos := "read.go:122", after := #[{ on := 1, ground := Go.Ground.data }, { on := 0, ground := Go.Ground.phase }, { on := 1, ground := Go.Ground.phase }, { on := 2, ground := Go.Ground.phase }, { on := 3, ground := Go.Ground.phase }, { on := 4, ground := Go.Ground.phase }, { on := 5, ground := Go.Ground.phase }, { on := 6, ground := Go.Ground.phase }, { on := 7, ground := Go.Ground.phase }, { on := 8, ground := Go.Ground.phase }, { on := 9, ground := Go.Ground.phase }, { on := 10, ground := Go.Ground.phase }], guard := Option.none }) (v := ?_) rfl (by kernel_rfl) (by kernel_rfl) (by kernel_rfl) (fun _ _ _ h => h) (Or.inl ⟨by rfl, ?_⟩) hHeld ?_
  rotate_left
  · intro W hSw
    (try dsimp only at hSw)
    go_simp
    (try with_reducible rfl)
  (try simp only [Act.put, List.setIfInBounds_toArray, List.set_cons_zero, List.set_cons_succ])
  refine wpAnyH_take (i := 12) (oi := { dst := Option.some 28, op := Go.Op.fieldAddr 124 (Go.Operand.tmp 27) 0, type := 0, pos := "read.go:122", after := #[{ on := 11, ground := Go.Ground.data }, { on := 0, ground := Go.Ground.phase }, { on := 1, ground := Go.Ground.phase }, { on := 2, ground := Go.Ground.phase }, { on := 3, ground := Go.Ground.phase }, { on := 4, ground := Go.Ground.phase }, { on := 5, ground := Go.Ground.phase }, { on := 6, ground := Go.Ground.phase }, { on := 7, ground := Go.Ground.phase }, { on := 8, ground := Go.Ground.phase }, { on := 9, ground := Go.Ground.phase }, { on := 10, ground := Go.Ground.phase }], guard := Option.none }) (v := ?_) rfl (by kernel_rfl) (by kernel_rfl) (by kernel_rfl) (fun _ _ _ h => h) (Or.inl ⟨by rfl, ?_⟩) hHeld ?_
  rotate_left
  · intro W hSw
    (try dsimp only at hSw)
    go_simp
    (try with_reducible rfl)
  (try simp only [Act.put, List.setIfInBounds_toArray, List.set_cons_zero, List.set_cons_succ])
  refine wpAnyH_ready (rs := [13]) (by kernel_rfl) (by simp) ?_
  refine AllReadyH.cons (o := { dst := Option.none, op := Go.Op.store 27 (Go.Operand.tmp 28) (Go.Operand.tmp 25), type := 0, pos := "read.go:122", after := #[{ on := 12, ground := Go.Ground.data }, { on := 8, ground := Go.Ground.data }, { on := 10, ground := Go.Ground.chain }, { on := 0, ground := Go.Ground.phase }, { on := 1, ground := Go.Ground.phase }, { on := 2, ground := Go.Ground.phase }, { on := 3, ground := Go.Ground.phase }, { on := 4, ground := Go.Ground.phase }, { on := 5, ground := Go.Ground.phase }, { on := 6, ground := Go.Ground.phase }, { on := 7, ground := Go.Ground.phase }, { on := 8, ground := Go.Ground.phase }, { on := 9, ground := Go.Ground.phase }, { on := 10, ground := Go.Ground.phase }], guard := Option.none }) rfl (fun K hK => ?_) AllReadyH.nil
  go_simp
  skip
  refine hK.out _ _ (RG.out _ _ _ K4.out) (fun hHeld => ?_)
  clear hK K
  (try simp only [Act.put, List.setIfInBounds_toArray, List.set_cons_zero, List.set_cons_succ])
  refine wpAnyH_done (by kernel_rfl) ?_ _
  clear hHeld
  have K5 := hid (K4.out.perm (((List.Perm.swap _ _ _).cons _).trans (List.Perm.swap _ _ _))).tail
  clear K4 K3 K2
  go_wp2
  go_ret
  exact ⟨rfl, _, HR.out, _, K5.out⟩
end Go.Proofs.YtfeppannfcbakaaGreatDoor

namespace Go.Proofs.YtfeppannfcbakaaGreatDoor
open Go.RowKit
set_option linter.unusedVariables false
set_option maxRecDepth 100000

/-- What is read: its content. -/
inductive Ct where
  | none | int (v : Int) | bool (b : Bool) | dat (d : List UInt8) | op (x : OpR) | res (c n : Int) (l : Ws)
/-- A thing read from words: the error, how many words, the content. -/
def rd1 (t : Th) (l : Ws) : Int × Nat × Ct := match t with
  | .op _ => ((readO l).e, (readO l).k, .op (readO l).o)
  | .res _ => ((readR l).e, (readR l).k, .res (readR l).c (readR l).n (readR l).items)
  | .int _ => match l with
    | [] => (190, 0, .none)
    | x :: _ => (if (numW x).isSome then 0 else 190, 1, .int (((numW x).getD 0 : Nat) : Int))
  | .cod _ => match l with
    | [] => (190, 0, .none)
    | x :: _ => (if (numW x).isSome then 0 else 190, 1, .int (((numW x).getD 0 : Nat) : Int))
  | .sta _ => match l with
    | [] => (190, 0, .none)
    | x :: _ => (if (stW x).isSome then 0 else 190, 1, .int (((stW x).getD 0 : Nat) : Int))
  | .fre _ => match l with
    | [] => (190, 0, .none)
    | x :: _ => (if decide (x = [102, 114, 101, 115, 104]) || decide (x = [111, 108, 100]) then 0 else 190, 1, .bool (decide (x = [102, 114, 101, 115, 104])))
  | .dat _ => match l with
    | [] => (190, 0, .none)
    | x :: _ => (if (datR x).isSome then 0 else 190, 1, .dat ((datR x).getD []))
  | _ => (0, 0, .none)
/-- A content written into an event's cells; a list stands as a value. -/
def putC (C : List Value) (t : Th) (x : Ct) (v : Value) : List Value := match t, x with
  | .int o, .int a => C.set o (.int .i64 a)
  | .cod o, .int a => C.set o (.int .i64 a)
  | .sta o, .int a => C.set o (.int .i64 a)
  | .fre o, .bool b => C.set o (.bool b)
  | .dat o, .dat _ => C.set o v
  | .op o, .op x => setOp C o x
  | .res o, .res c n _ => setRes C o c n v
  | _, _ => C
/-- What a content owns. -/
def ownOf (x : Ct) (v : Value) : List Comp := match x with
  | .dat d => [ownC 5 v (cellsB d)]
  | .res _ _ l => [ownC 9 v (txW l)]
  | _ => []
def offT : Th → Nat
  | .int o => o | .cod o => o | .fre o => o | .sta o => o | .dat o => o | .op o => o + 4 | .res o => o + 2 | .look o => o + 7 | .sht o => o + 2
/-- What reading a thing does. -/
def TRPost (R P : Nat) (w0 : World) (C : List Value) (t : Th) (l : Ws) (cs : List Comp) (e : Ending) (w' : World) : Prop :=
  e = .returned (.int .i64 (rd1 t l).1) ∧ ∃ s' v, Rt w0 s' (l.drop (rd1 t l).2.1) ∧ All (blkC R [s'] 124 :: blkC P (putC C t (rd1 t l).2.2 v) 36 :: (ownOf (rd1 t l).2.2 v ++ cs)) w'
set_option maxHeartbeats 3200000 in
set_option maxRecDepth 1000000 in
theorem thing_flat {R P : Nat} {t : Th} {s : Value} {l : Ws} {C : List Value} {cs : List Comp} {w w0 : World} (hf : flatT t = true) (hE : ∀ W, All cs W → En W) (h0 : Rt w0 s l) (hi : inC w0 ∈ cs) (hl : l.length * 16 ≤ 140737488355328) (hs : ∀ x ∈ l, x.length ≤ 140737488355328) (ho : offT t < C.length) (A : All (blkC R [s] 124 :: blkC P C 36 :: cs) w) :
    Calls Tryz.prog 106 #[.pointer (some ⟨R, 0, none⟩), thV P t] w (TRPost R P w0 C t l cs) := by
  cases t with
  | op o =>
    have CO := hid (rop_any (o := o) hE h0 hi (by omega) hs (by simp only [offT] at ho; omega) A)
    clear A hE h0 hi hl hs ho
    simp only [thV]
    unfold TRPost
    simp only [rd1, putC, ownOf, List.nil_append]
    generalize readO l = r at *
    generalize setOp C o r.o = C2 at *
    have ta0 : ∀ W : World, (Instr.typeAssert (.iface 99 (.pointer (some ⟨P, o, none⟩))) 20 99 true).run Tryz.prog W = .ok (.tuple #[.pointer (some ⟨P, o, none⟩), .bool true]) W := fun W => by kernel_rfl
    go_enter Tryz.func106, Tryz.ntmps106
    go_wp2_with (go_at_call 131; refine CO.out.mono ?_; rintro e w1 ⟨rfl, s1, R1, A1⟩; have K1 := hid A1; have RR1 := hid R1; clear A1 R1)
    go_ret
    first | exact ⟨rfl, _, RR1.out, K1.out⟩ | exact ⟨rfl, _, .bool false, RR1.out, K1.out⟩
  | res o =>
    have CO := hid (rres_any (o := o) hE h0 hi hl hs (by simp only [offT] at ho; omega) A)
    clear A hE h0 hi hl hs ho
    simp only [thV]
    unfold TRPost
    simp only [rd1, putC, ownOf, List.cons_append, List.nil_append]
    generalize readR l = r at *
    have ta0 : ∀ W : World, (Instr.typeAssert (.iface 100 (.pointer (some ⟨P, o, none⟩))) 20 99 true).run Tryz.prog W = .ok (.tuple #[.pointer none, .bool false]) W := fun W => by kernel_rfl
    have ta1 : ∀ W : World, (Instr.typeAssert (.iface 100 (.pointer (some ⟨P, o, none⟩))) 20 100 true).run Tryz.prog W = .ok (.tuple #[.pointer (some ⟨P, o, none⟩), .bool true]) W := fun W => by kernel_rfl
    go_enter Tryz.func106, Tryz.ntmps106
    go_wp2_with (go_at_call 132; refine CO.out.mono ?_; rintro e w1 ⟨rfl, s1, v1, R1, A1⟩; have K1 := hid A1; have RR1 := hid R1; clear A1 R1)
    go_ret
    first | exact ⟨rfl, _, RR1.out, _, K1.out⟩ | exact ⟨rfl, _, _, RR1.out, K1.out⟩
  | look o => exact absurd hf (by simp [flatT])
  | sht o => exact absurd hf (by simp [flatT])
  | int o =>
    cases l with
    | nil =>
      obtain ⟨ao, c, rfl⟩ := h0.form
      have CN := hid (next_nil (R := R) (ao := ao) (c := c) A)
      have HA := hid A
      have R0 := hid h0
      clear A hE h0 hi hl hs ho
      simp only [thV]
      unfold TRPost
      simp only [rd1, putC, ownOf, List.nil_append, List.drop_nil]
      have ta0 : ∀ W : World, (Instr.typeAssert (.iface 97 (.pointer (some ⟨P, o, none⟩))) 20 99 true).run Tryz.prog W = .ok (.tuple #[.pointer none, .bool false]) W := fun W => by kernel_rfl
      have ta1 : ∀ W : World, (Instr.typeAssert (.iface 97 (.pointer (some ⟨P, o, none⟩))) 20 100 true).run Tryz.prog W = .ok (.tuple #[.pointer none, .bool false]) W := fun W => by kernel_rfl
      have ta2 : ∀ W : World, (Instr.typeAssert (.iface 97 (.pointer (some ⟨P, o, none⟩))) 20 102 true).run Tryz.prog W = .ok (.tuple #[.pointer none, .bool false]) W := fun W => by kernel_rfl
      have ta3 : ∀ W : World, (Instr.typeAssert (.iface 97 (.pointer (some ⟨P, o, none⟩))) 20 103 true).run Tryz.prog W = .ok (.tuple #[.pointer none, .bool false]) W := fun W => by kernel_rfl
      go_enter Tryz.func106, Tryz.ntmps106
      go_wp2_with (go_at_call 71; refine CN.out.mono ?_; rintro e w1 ⟨rfl, h1⟩; subst w1)
      go_ret
      first | exact ⟨rfl, _, R0.out, HA.out⟩ | exact ⟨rfl, _, .bool false, R0.out, HA.out⟩
    | cons x r =>
      have hx := hs x (by simp)
      have CN := hid (next_cons A (h0.later (A.into (List.mem_cons_of_mem _ (List.mem_cons_of_mem _ hi)))) (by simp only [List.length_cons] at hl; omega))
      obtain ⟨z, hz⟩ : ∃ z, C[o]? = some z := ⟨_, List.getElem?_eq_getElem ho⟩
      have CW : Hid (∀ s' W, All (blkC R [s'] 124 :: blkC P C 36 :: cs) W → Calls Tryz.prog 133 #[thV P (.int o), .string ⟨x.toArray⟩] W (RWPost P o C ((numW x).isSome) (.int .i64 (((numW x).getD 0 : Nat) : Int)) (blkC R [s'] 124 :: cs))) := hid (fun s' W hW => rw_int (hE _ hW.tail.tail) hz hx hW.swap)
      have R0 := hid h0
      clear A hE hi hl hs ho hz h0 hx
      simp only [thV] at CW ⊢
      unfold TRPost
      simp only [rd1, putC, ownOf, List.nil_append, List.drop_succ_cons, List.drop_zero]
      unfold RWPost at CW
      generalize ByteArray.mk x.toArray = X at *
      generalize (numW x).isSome = B at *
      have ta0 : ∀ W : World, (Instr.typeAssert (.iface 97 (.pointer (some ⟨P, o, none⟩))) 20 99 true).run Tryz.prog W = .ok (.tuple #[.pointer none, .bool false]) W := fun W => by kernel_rfl
      have ta1 : ∀ W : World, (Instr.typeAssert (.iface 97 (.pointer (some ⟨P, o, none⟩))) 20 100 true).run Tryz.prog W = .ok (.tuple #[.pointer none, .bool false]) W := fun W => by kernel_rfl
      have ta2 : ∀ W : World, (Instr.typeAssert (.iface 97 (.pointer (some ⟨P, o, none⟩))) 20 102 true).run Tryz.prog W = .ok (.tuple #[.pointer none, .bool false]) W := fun W => by kernel_rfl
      have ta3 : ∀ W : World, (Instr.typeAssert (.iface 97 (.pointer (some ⟨P, o, none⟩))) 20 103 true).run Tryz.prog W = .ok (.tuple #[.pointer none, .bool false]) W := fun W => by kernel_rfl
      cases B
      all_goals
        go_enter Tryz.func106, Tryz.ntmps106
        go_wp2_with (first | (go_at_call 71; refine CN.out.mono ?_; rintro e w1 ⟨rfl, s1, R1, A1⟩; have K1 := hid A1; have RR1 := hid (R1 _ R0.out); clear A1 R1) | (go_at_call 133; refine (CW.out _ _ K1.out).mono ?_; rintro e w2 ⟨rfl, A2⟩; have K2 := hid A2.swap; clear A2))
        go_ret
        exact ⟨rfl, _, RR1.out, K2.out⟩
  | cod o =>
    cases l with
    | nil =>
      obtain ⟨ao, c, rfl⟩ := h0.form
      have CN := hid (next_nil (R := R) (ao := ao) (c := c) A)
      have HA := hid A
      have R0 := hid h0
      clear A hE h0 hi hl hs ho
      simp only [thV]
      unfold TRPost
      simp only [rd1, putC, ownOf, List.nil_append, List.drop_nil]
      have ta0 : ∀ W : World, (Instr.typeAssert (.iface 98 (.pointer (some ⟨P, o, none⟩))) 20 99 true).run Tryz.prog W = .ok (.tuple #[.pointer none, .bool false]) W := fun W => by kernel_rfl
      have ta1 : ∀ W : World, (Instr.typeAssert (.iface 98 (.pointer (some ⟨P, o, none⟩))) 20 100 true).run Tryz.prog W = .ok (.tuple #[.pointer none, .bool false]) W := fun W => by kernel_rfl
      have ta2 : ∀ W : World, (Instr.typeAssert (.iface 98 (.pointer (some ⟨P, o, none⟩))) 20 102 true).run Tryz.prog W = .ok (.tuple #[.pointer none, .bool false]) W := fun W => by kernel_rfl
      have ta3 : ∀ W : World, (Instr.typeAssert (.iface 98 (.pointer (some ⟨P, o, none⟩))) 20 103 true).run Tryz.prog W = .ok (.tuple #[.pointer none, .bool false]) W := fun W => by kernel_rfl
      go_enter Tryz.func106, Tryz.ntmps106
      go_wp2_with (go_at_call 71; refine CN.out.mono ?_; rintro e w1 ⟨rfl, h1⟩; subst w1)
      go_ret
      first | exact ⟨rfl, _, R0.out, HA.out⟩ | exact ⟨rfl, _, .bool false, R0.out, HA.out⟩
    | cons x r =>
      have hx := hs x (by simp)
      have CN := hid (next_cons A (h0.later (A.into (List.mem_cons_of_mem _ (List.mem_cons_of_mem _ hi)))) (by simp only [List.length_cons] at hl; omega))
      obtain ⟨z, hz⟩ : ∃ z, C[o]? = some z := ⟨_, List.getElem?_eq_getElem ho⟩
      have CW : Hid (∀ s' W, All (blkC R [s'] 124 :: blkC P C 36 :: cs) W → Calls Tryz.prog 133 #[thV P (.cod o), .string ⟨x.toArray⟩] W (RWPost P o C ((numW x).isSome) (.int .i64 (((numW x).getD 0 : Nat) : Int)) (blkC R [s'] 124 :: cs))) := hid (fun s' W hW => rw_cod (hE _ hW.tail.tail) hz hx hW.swap)
      have R0 := hid h0
      clear A hE hi hl hs ho hz h0 hx
      simp only [thV] at CW ⊢
      unfold TRPost
      simp only [rd1, putC, ownOf, List.nil_append, List.drop_succ_cons, List.drop_zero]
      unfold RWPost at CW
      generalize ByteArray.mk x.toArray = X at *
      generalize (numW x).isSome = B at *
      have ta0 : ∀ W : World, (Instr.typeAssert (.iface 98 (.pointer (some ⟨P, o, none⟩))) 20 99 true).run Tryz.prog W = .ok (.tuple #[.pointer none, .bool false]) W := fun W => by kernel_rfl
      have ta1 : ∀ W : World, (Instr.typeAssert (.iface 98 (.pointer (some ⟨P, o, none⟩))) 20 100 true).run Tryz.prog W = .ok (.tuple #[.pointer none, .bool false]) W := fun W => by kernel_rfl
      have ta2 : ∀ W : World, (Instr.typeAssert (.iface 98 (.pointer (some ⟨P, o, none⟩))) 20 102 true).run Tryz.prog W = .ok (.tuple #[.pointer none, .bool false]) W := fun W => by kernel_rfl
      have ta3 : ∀ W : World, (Instr.typeAssert (.iface 98 (.pointer (some ⟨P, o, none⟩))) 20 103 true).run Tryz.prog W = .ok (.tuple #[.pointer none, .bool false]) W := fun W => by kernel_rfl
      cases B
      all_goals
        go_enter Tryz.func106, Tryz.ntmps106
        go_wp2_with (first | (go_at_call 71; refine CN.out.mono ?_; rintro e w1 ⟨rfl, s1, R1, A1⟩; have K1 := hid A1; have RR1 := hid (R1 _ R0.out); clear A1 R1) | (go_at_call 133; refine (CW.out _ _ K1.out).mono ?_; rintro e w2 ⟨rfl, A2⟩; have K2 := hid A2.swap; clear A2))
        go_ret
        exact ⟨rfl, _, RR1.out, K2.out⟩
  | sta o =>
    cases l with
    | nil =>
      obtain ⟨ao, c, rfl⟩ := h0.form
      have CN := hid (next_nil (R := R) (ao := ao) (c := c) A)
      have HA := hid A
      have R0 := hid h0
      clear A hE h0 hi hl hs ho
      simp only [thV]
      unfold TRPost
      simp only [rd1, putC, ownOf, List.nil_append, List.drop_nil]
      have ta0 : ∀ W : World, (Instr.typeAssert (.iface 140 (.agg #[.pointer (some ⟨P, o, none⟩)])) 20 99 true).run Tryz.prog W = .ok (.tuple #[.pointer none, .bool false]) W := fun W => by kernel_rfl
      have ta1 : ∀ W : World, (Instr.typeAssert (.iface 140 (.agg #[.pointer (some ⟨P, o, none⟩)])) 20 100 true).run Tryz.prog W = .ok (.tuple #[.pointer none, .bool false]) W := fun W => by kernel_rfl
      have ta2 : ∀ W : World, (Instr.typeAssert (.iface 140 (.agg #[.pointer (some ⟨P, o, none⟩)])) 20 102 true).run Tryz.prog W = .ok (.tuple #[.pointer none, .bool false]) W := fun W => by kernel_rfl
      have ta3 : ∀ W : World, (Instr.typeAssert (.iface 140 (.agg #[.pointer (some ⟨P, o, none⟩)])) 20 103 true).run Tryz.prog W = .ok (.tuple #[.pointer none, .bool false]) W := fun W => by kernel_rfl
      go_enter Tryz.func106, Tryz.ntmps106
      go_wp2_with (go_at_call 71; refine CN.out.mono ?_; rintro e w1 ⟨rfl, h1⟩; subst w1)
      go_ret
      first | exact ⟨rfl, _, R0.out, HA.out⟩ | exact ⟨rfl, _, .bool false, R0.out, HA.out⟩
    | cons x r =>
      have hx := hs x (by simp)
      have CN := hid (next_cons A (h0.later (A.into (List.mem_cons_of_mem _ (List.mem_cons_of_mem _ hi)))) (by simp only [List.length_cons] at hl; omega))
      obtain ⟨z, hz⟩ : ∃ z, C[o]? = some z := ⟨_, List.getElem?_eq_getElem ho⟩
      have CW : Hid (∀ s' W, All (blkC R [s'] 124 :: blkC P C 36 :: cs) W → Calls Tryz.prog 133 #[thV P (.sta o), .string ⟨x.toArray⟩] W (RWPost P o C ((stW x).isSome) (.int .i64 (((stW x).getD 0 : Nat) : Int)) (blkC R [s'] 124 :: cs))) := hid (fun s' W hW => rw_sta (hE _ hW.tail.tail) hz hx hW.swap)
      have R0 := hid h0
      clear A hE hi hl hs ho hz h0 hx
      simp only [thV] at CW ⊢
      unfold TRPost
      simp only [rd1, putC, ownOf, List.nil_append, List.drop_succ_cons, List.drop_zero]
      unfold RWPost at CW
      generalize ByteArray.mk x.toArray = X at *
      generalize (stW x).isSome = B at *
      have ta0 : ∀ W : World, (Instr.typeAssert (.iface 140 (.agg #[.pointer (some ⟨P, o, none⟩)])) 20 99 true).run Tryz.prog W = .ok (.tuple #[.pointer none, .bool false]) W := fun W => by kernel_rfl
      have ta1 : ∀ W : World, (Instr.typeAssert (.iface 140 (.agg #[.pointer (some ⟨P, o, none⟩)])) 20 100 true).run Tryz.prog W = .ok (.tuple #[.pointer none, .bool false]) W := fun W => by kernel_rfl
      have ta2 : ∀ W : World, (Instr.typeAssert (.iface 140 (.agg #[.pointer (some ⟨P, o, none⟩)])) 20 102 true).run Tryz.prog W = .ok (.tuple #[.pointer none, .bool false]) W := fun W => by kernel_rfl
      have ta3 : ∀ W : World, (Instr.typeAssert (.iface 140 (.agg #[.pointer (some ⟨P, o, none⟩)])) 20 103 true).run Tryz.prog W = .ok (.tuple #[.pointer none, .bool false]) W := fun W => by kernel_rfl
      cases B
      all_goals
        go_enter Tryz.func106, Tryz.ntmps106
        go_wp2_with (first | (go_at_call 71; refine CN.out.mono ?_; rintro e w1 ⟨rfl, s1, R1, A1⟩; have K1 := hid A1; have RR1 := hid (R1 _ R0.out); clear A1 R1) | (go_at_call 133; refine (CW.out _ _ K1.out).mono ?_; rintro e w2 ⟨rfl, A2⟩; have K2 := hid A2.swap; clear A2))
        go_ret
        exact ⟨rfl, _, RR1.out, K2.out⟩
  | fre o =>
    cases l with
    | nil =>
      obtain ⟨ao, c, rfl⟩ := h0.form
      have CN := hid (next_nil (R := R) (ao := ao) (c := c) A)
      have HA := hid A
      have R0 := hid h0
      clear A hE h0 hi hl hs ho
      simp only [thV]
      unfold TRPost
      simp only [rd1, putC, ownOf, List.nil_append, List.drop_nil]
      have ta0 : ∀ W : World, (Instr.typeAssert (.iface 101 (.pointer (some ⟨P, o, none⟩))) 20 99 true).run Tryz.prog W = .ok (.tuple #[.pointer none, .bool false]) W := fun W => by kernel_rfl
      have ta1 : ∀ W : World, (Instr.typeAssert (.iface 101 (.pointer (some ⟨P, o, none⟩))) 20 100 true).run Tryz.prog W = .ok (.tuple #[.pointer none, .bool false]) W := fun W => by kernel_rfl
      have ta2 : ∀ W : World, (Instr.typeAssert (.iface 101 (.pointer (some ⟨P, o, none⟩))) 20 102 true).run Tryz.prog W = .ok (.tuple #[.pointer none, .bool false]) W := fun W => by kernel_rfl
      have ta3 : ∀ W : World, (Instr.typeAssert (.iface 101 (.pointer (some ⟨P, o, none⟩))) 20 103 true).run Tryz.prog W = .ok (.tuple #[.pointer none, .bool false]) W := fun W => by kernel_rfl
      go_enter Tryz.func106, Tryz.ntmps106
      go_wp2_with (go_at_call 71; refine CN.out.mono ?_; rintro e w1 ⟨rfl, h1⟩; subst w1)
      go_ret
      first | exact ⟨rfl, _, R0.out, HA.out⟩ | exact ⟨rfl, _, .bool false, R0.out, HA.out⟩
    | cons x r =>
      have hx := hs x (by simp)
      have CN := hid (next_cons A (h0.later (A.into (List.mem_cons_of_mem _ (List.mem_cons_of_mem _ hi)))) (by simp only [List.length_cons] at hl; omega))
      obtain ⟨z, hz⟩ : ∃ z, C[o]? = some z := ⟨_, List.getElem?_eq_getElem ho⟩
      have CW : Hid (∀ s' W, All (blkC R [s'] 124 :: blkC P C 36 :: cs) W → Calls Tryz.prog 133 #[thV P (.fre o), .string ⟨x.toArray⟩] W (RWPost P o C ((decide (x = [102, 114, 101, 115, 104]) || decide (x = [111, 108, 100]))) (.bool (decide (x = [102, 114, 101, 115, 104]))) (blkC R [s'] 124 :: cs))) := hid (fun s' W hW => rw_fre (hE _ hW.tail.tail) hz hx hW.swap)
      have R0 := hid h0
      clear A hE hi hl hs ho hz h0 hx
      simp only [thV] at CW ⊢
      unfold TRPost
      simp only [rd1, putC, ownOf, List.nil_append, List.drop_succ_cons, List.drop_zero]
      unfold RWPost at CW
      generalize ByteArray.mk x.toArray = X at *
      generalize (decide (x = [102, 114, 101, 115, 104]) || decide (x = [111, 108, 100])) = B at *
      have ta0 : ∀ W : World, (Instr.typeAssert (.iface 101 (.pointer (some ⟨P, o, none⟩))) 20 99 true).run Tryz.prog W = .ok (.tuple #[.pointer none, .bool false]) W := fun W => by kernel_rfl
      have ta1 : ∀ W : World, (Instr.typeAssert (.iface 101 (.pointer (some ⟨P, o, none⟩))) 20 100 true).run Tryz.prog W = .ok (.tuple #[.pointer none, .bool false]) W := fun W => by kernel_rfl
      have ta2 : ∀ W : World, (Instr.typeAssert (.iface 101 (.pointer (some ⟨P, o, none⟩))) 20 102 true).run Tryz.prog W = .ok (.tuple #[.pointer none, .bool false]) W := fun W => by kernel_rfl
      have ta3 : ∀ W : World, (Instr.typeAssert (.iface 101 (.pointer (some ⟨P, o, none⟩))) 20 103 true).run Tryz.prog W = .ok (.tuple #[.pointer none, .bool false]) W := fun W => by kernel_rfl
      cases B
      all_goals
        go_enter Tryz.func106, Tryz.ntmps106
        go_wp2_with (first | (go_at_call 71; refine CN.out.mono ?_; rintro e w1 ⟨rfl, s1, R1, A1⟩; have K1 := hid A1; have RR1 := hid (R1 _ R0.out); clear A1 R1) | (go_at_call 133; refine (CW.out _ _ K1.out).mono ?_; rintro e w2 ⟨rfl, A2⟩; have K2 := hid A2.swap; clear A2))
        go_ret
        exact ⟨rfl, _, RR1.out, K2.out⟩
  | dat o =>
    cases l with
    | nil =>
      obtain ⟨ao, c, rfl⟩ := h0.form
      have CN := hid (next_nil (R := R) (ao := ao) (c := c) A)
      have HA := hid A
      have R0 := hid h0
      clear A hE h0 hi hl hs ho
      simp only [thV]
      unfold TRPost
      simp only [rd1, putC, ownOf, List.nil_append, List.drop_nil]
      have ta0 : ∀ W : World, (Instr.typeAssert (.iface 141 (.pointer (some ⟨P, o, none⟩))) 20 99 true).run Tryz.prog W = .ok (.tuple #[.pointer none, .bool false]) W := fun W => by kernel_rfl
      have ta1 : ∀ W : World, (Instr.typeAssert (.iface 141 (.pointer (some ⟨P, o, none⟩))) 20 100 true).run Tryz.prog W = .ok (.tuple #[.pointer none, .bool false]) W := fun W => by kernel_rfl
      have ta2 : ∀ W : World, (Instr.typeAssert (.iface 141 (.pointer (some ⟨P, o, none⟩))) 20 102 true).run Tryz.prog W = .ok (.tuple #[.pointer none, .bool false]) W := fun W => by kernel_rfl
      have ta3 : ∀ W : World, (Instr.typeAssert (.iface 141 (.pointer (some ⟨P, o, none⟩))) 20 103 true).run Tryz.prog W = .ok (.tuple #[.pointer none, .bool false]) W := fun W => by kernel_rfl
      go_enter Tryz.func106, Tryz.ntmps106
      go_wp2_with (go_at_call 71; refine CN.out.mono ?_; rintro e w1 ⟨rfl, h1⟩; subst w1)
      go_ret
      first | exact ⟨rfl, _, R0.out, HA.out⟩ | exact ⟨rfl, _, .bool false, R0.out, HA.out⟩
    | cons x r =>
      have hx := hs x (by simp)
      have CN := hid (next_cons A (h0.later (A.into (List.mem_cons_of_mem _ (List.mem_cons_of_mem _ hi)))) (by simp only [List.length_cons] at hl; omega))
      obtain ⟨z, hz⟩ : ∃ z, C[o]? = some z := ⟨_, List.getElem?_eq_getElem ho⟩
      have CW : Hid (∀ s' W, All (blkC R [s'] 124 :: blkC P C 36 :: cs) W → Calls Tryz.prog 133 #[thV P (.dat o), .string ⟨x.toArray⟩] W (fun e w1 => ∃ v, e = .returned (.bool (datR x).isSome) ∧ All (blkC P (C.set o v) 36 :: ownC 5 v (cellsB ((datR x).getD [])) :: blkC R [s'] 124 :: cs) w1)) := hid (fun s' W hW => rw_dat (hE _ hW.tail.tail) hz hx hW.swap)
      have R0 := hid h0
      clear A hE hi hl hs ho hz h0 hx
      simp only [thV] at CW ⊢
      unfold TRPost
      simp only [rd1, putC, ownOf, List.nil_append, List.cons_append, List.drop_succ_cons, List.drop_zero]
      
      generalize ByteArray.mk x.toArray = X at *
      generalize (datR x).isSome = B at *
      have ta0 : ∀ W : World, (Instr.typeAssert (.iface 141 (.pointer (some ⟨P, o, none⟩))) 20 99 true).run Tryz.prog W = .ok (.tuple #[.pointer none, .bool false]) W := fun W => by kernel_rfl
      have ta1 : ∀ W : World, (Instr.typeAssert (.iface 141 (.pointer (some ⟨P, o, none⟩))) 20 100 true).run Tryz.prog W = .ok (.tuple #[.pointer none, .bool false]) W := fun W => by kernel_rfl
      have ta2 : ∀ W : World, (Instr.typeAssert (.iface 141 (.pointer (some ⟨P, o, none⟩))) 20 102 true).run Tryz.prog W = .ok (.tuple #[.pointer none, .bool false]) W := fun W => by kernel_rfl
      have ta3 : ∀ W : World, (Instr.typeAssert (.iface 141 (.pointer (some ⟨P, o, none⟩))) 20 103 true).run Tryz.prog W = .ok (.tuple #[.pointer none, .bool false]) W := fun W => by kernel_rfl
      cases B
      all_goals
        go_enter Tryz.func106, Tryz.ntmps106
        go_wp2_with (first | (go_at_call 71; refine CN.out.mono ?_; rintro e w1 ⟨rfl, s1, R1, A1⟩; have K1 := hid A1; have RR1 := hid (R1 _ R0.out); clear A1 R1) | (go_at_call 133; refine (CW.out _ _ K1.out).mono ?_; rintro e w2 ⟨v2, rfl, A2⟩; have K2 := hid (A2.perm (((List.Perm.swap _ _ _).cons _).trans (List.Perm.swap _ _ _))); clear A2))
        go_ret
        exact ⟨rfl, _, RR1.out, _, K2.out⟩
end Go.Proofs.YtfeppannfcbakaaGreatDoor

namespace Go.Proofs.YtfeppannfcbakaaGreatDoor
open Go.RowKit
set_option linter.unusedVariables false
set_option maxRecDepth 100000

/-- Things read one behind the other: the error, how many words, the contents. -/
def rdsL : List Th → Ws → Int × Nat × List Ct
  | [], _ => (0, 0, [])
  | t :: r, l => if (rd1 t l).1 ≠ 0 then ((rd1 t l).1, (rd1 t l).2.1, [(rd1 t l).2.2]) else ((rdsL r (l.drop (rd1 t l).2.1)).1, (rd1 t l).2.1 + (rdsL r (l.drop (rd1 t l).2.1)).2.1, (rd1 t l).2.2 :: (rdsL r (l.drop (rd1 t l).2.1)).2.2)
def putL : List Value → List Th → List Ct → List Value → List Value
  | C, t :: ts, c :: cs, v :: vs => putL (putC C t c v) ts cs vs
  | C, _, _, _ => C
def ownL : List Ct → List Value → List Comp
  | c :: cs, v :: vs => ownOf c v ++ ownL cs vs
  | _, _ => []
theorem putC_len (C : List Value) (t : Th) (x : Ct) (v : Value) : (putC C t x v).length = C.length := by
  unfold putC
  split <;> simp [setOp, setRes]
theorem putL_len (C : List Value) (ts : List Th) (cs : List Ct) (vs : List Value) : (putL C ts cs vs).length = C.length := by
  induction ts generalizing C cs vs with
  | nil => cases cs <;> cases vs <;> rfl
  | cons t r ih =>
    cases cs with
    | nil => cases vs <;> rfl
    | cons c cs =>
      cases vs with
      | nil => rfl
      | cons v vs => rw [putL, ih, putC_len]
theorem rdsL_len {a : List Th} {l : Ws} (h : (rdsL a l).1 = 0) : (rdsL a l).2.2.length = a.length := by
  induction a generalizing l with
  | nil => rfl
  | cons t r ih =>
    rw [rdsL] at h ⊢
    split
    · rename_i h1; rw [if_pos h1] at h; exact absurd h h1
    · rename_i h1; rw [if_neg h1] at h; simp only [List.length_cons]; rw [ih h]
theorem rdsL_le (a : List Th) (l : Ws) : (rdsL a l).2.2.length ≤ a.length := by
  induction a generalizing l with
  | nil => exact Nat.le_refl _
  | cons t r ih =>
    rw [rdsL]
    split
    · simp
    · simp only [List.length_cons]; have := ih (l.drop (rd1 t l).2.1); omega
theorem rdsL_app {a b : List Th} {l : Ws} (h : (rdsL a l).1 = 0) : rdsL (a ++ b) l = ((rdsL b (l.drop (rdsL a l).2.1)).1, (rdsL a l).2.1 + (rdsL b (l.drop (rdsL a l).2.1)).2.1, (rdsL a l).2.2 ++ (rdsL b (l.drop (rdsL a l).2.1)).2.2) := by
  induction a generalizing l with
  | nil => simp [rdsL]
  | cons t r ih =>
    rw [List.cons_append, rdsL, rdsL]
    rw [rdsL] at h
    split
    · rename_i h1; rw [if_pos h1] at h; exact absurd h h1
    · rename_i h1
      rw [if_neg h1] at h
      rw [ih h]
      simp only [List.drop_drop, List.cons_append, Nat.add_assoc]
theorem rdsL_stop {a b : List Th} {l : Ws} (h : (rdsL a l).1 ≠ 0) : rdsL (a ++ b) l = rdsL a l := by
  induction a generalizing l with
  | nil => exact absurd rfl h
  | cons t r ih =>
    rw [List.cons_append, rdsL, rdsL]
    rw [rdsL] at h
    split
    · rfl
    · rename_i h1
      rw [if_neg h1] at h
      rw [ih h]
theorem putL_app {C : List Value} {a b : List Th} {ca cb : List Ct} {va vb : List Value} (h1 : ca.length = a.length) (h2 : va.length = ca.length) : putL C (a ++ b) (ca ++ cb) (va ++ vb) = putL (putL C a ca va) b cb vb := by
  induction a generalizing C ca va with
  | nil =>
    have : ca = [] := List.eq_nil_of_length_eq_zero h1
    subst this
    have : va = [] := List.eq_nil_of_length_eq_zero h2
    subst this
    cases b <;> cases cb <;> cases vb <;> rfl
  | cons t r ih =>
    cases ca with
    | nil => simp at h1
    | cons c cs =>
      cases va with
      | nil => simp at h2
      | cons v vs =>
        simp only [List.cons_append, putL]
        exact ih (by simpa using h1) (by simpa using h2)
theorem putL_more {C : List Value} {a b : List Th} {c : List Ct} {v : List Value} (h : c.length ≤ a.length) : putL C (a ++ b) c v = putL C a c v := by
  induction a generalizing C c v with
  | nil =>
    have : c = [] := List.eq_nil_of_length_eq_zero (by simpa using h)
    subst this
    cases b <;> cases v <;> rfl
  | cons t r ih =>
    cases c with
    | nil => cases v <;> rfl
    | cons x cs =>
      cases v with
      | nil => rfl
      | cons v vs =>
        simp only [List.cons_append, putL]
        exact ih (by simpa using h)
theorem ownL_app {ca cb : List Ct} {va vb : List Value} (h : va.length = ca.length) : ownL (ca ++ cb) (va ++ vb) = ownL ca va ++ ownL cb vb := by
  induction ca generalizing va with
  | nil =>
    have : va = [] := List.eq_nil_of_length_eq_zero h
    subst this
    cases cb <;> cases vb <;> rfl
  | cons c cs ih =>
    cases va with
    | nil => simp at h
    | cons v vs => simp only [List.cons_append, ownL, List.append_assoc]; rw [ih (by simpa using h)]
/-- What reading things does. -/
def TRs (R P : Nat) (w0 : World) (C : List Value) (ts : List Th) (l : Ws) (cs : List Comp) (e : Ending) (w' : World) : Prop :=
  e = .returned (.int .i64 (rdsL ts l).1) ∧ ∃ s' vs, Rt w0 s' (l.drop (rdsL ts l).2.1) ∧ vs.length = (rdsL ts l).2.2.length ∧ All (blkC R [s'] 124 :: blkC P (putL C ts (rdsL ts l).2.2 vs) 36 :: (ownL (rdsL ts l).2.2 vs ++ cs)) w'
theorem TRs.of_one {R P : Nat} {w0 : World} {C : List Value} {t : Th} {l : Ws} {cs : List Comp} {e : Ending} {w' : World} (h : TRPost R P w0 C t l cs e w') : TRs R P w0 C [t] l cs e w' := by
  obtain ⟨he, s', v, hR, hA⟩ := h
  by_cases h0 : (rd1 t l).1 ≠ 0
  · have e1 : rdsL [t] l = ((rd1 t l).1, (rd1 t l).2.1, [(rd1 t l).2.2]) := by rw [rdsL, if_pos h0]
    refine ⟨by rw [e1]; exact he, s', [v], by rw [e1]; exact hR, by rw [e1]; rfl, ?_⟩
    rw [e1]
    simp only [putL, ownL, List.append_nil]
    exact hA
  · have e1 : rdsL [t] l = (0, (rd1 t l).2.1, [(rd1 t l).2.2]) := by rw [rdsL, if_neg h0]; simp [rdsL]
    have h00 : (rd1 t l).1 = 0 := by simpa using h0
    refine ⟨by rw [e1]; rw [h00] at he; exact he, s', [v], by rw [e1]; exact hR, by rw [e1]; rfl, ?_⟩
    rw [e1]
    simp only [putL, ownL, List.append_nil]
    exact hA
theorem thing_flatL {R P : Nat} {t : Th} {s : Value} {l : Ws} {C : List Value} {cs : List Comp} {w w0 : World} (hf : flatT t = true) (hE : ∀ W, All cs W → En W) (h0 : Rt w0 s l) (hi : inC w0 ∈ cs) (hl : l.length * 16 ≤ 140737488355328) (hs : ∀ x ∈ l, x.length ≤ 140737488355328) (ho : offT t < C.length) (A : All (blkC R [s] 124 :: blkC P C 36 :: cs) w) :
    Calls Tryz.prog 106 #[.pointer (some ⟨R, 0, none⟩), thV P t] w (TRs R P w0 C (sub t) l cs) := by
  have e : sub t = [t] := by cases t <;> simp_all [flatT, sub]
  rw [e]
  exact (thing_flat hf hE h0 hi hl hs ho A).mono fun _ _ h => TRs.of_one h
set_option maxHeartbeats 3200000 in
set_option maxRecDepth 1000000 in
theorem things_gen {R P b : Nat} {ts : List Th} {s : Value} {l : Ws} {C : List Value} {cs : List Comp} {w w0 : World} (hn : ts.length ≤ 100) (h0 : Rt w0 s l) (hb : blkC b (ts.map (thV P)) 20 ∈ cs)
    (HT : ∀ t ∈ ts, ∀ (C' : List Value) (k : Nat) (s' : Value) (ds : List Comp) (W : World), C'.length = C.length → Rt w0 s' (l.drop k) → (∀ V, All ds V → All cs V) → (∀ c ∈ cs, c ∈ ds) → All (blkC R [s'] 124 :: blkC P C' 36 :: ds) W → Calls Tryz.prog 106 #[.pointer (some ⟨R, 0, none⟩), thV P t] W (TRs R P w0 C' (sub t) (l.drop k) ds))
    (A : All (blkC R [s] 124 :: blkC P C 36 :: cs) w) :
    Calls Tryz.prog 73 #[.pointer (some ⟨R, 0, none⟩), .slice (some ⟨b, 0, none⟩) ts.length ts.length] w (TRs R P w0 C (ts.flatMap sub) l cs) := by
  have EL : Hid (∀ j, j < ts.length → ∃ t, ts[j]? = some t ∧ (ts.map (thV P))[j]? = some (thV P t) ∧ t ∈ ts) := hid (fun j hj => ⟨ts[j], List.getElem?_eq_getElem hj, by simp [List.getElem?_eq_getElem hj], List.getElem_mem hj⟩)
  have S0 : Hid (∃ s' vs, Rt w0 s' (l.drop (rdsL ((ts.take 0).flatMap sub) l).2.1) ∧ vs.length = (rdsL ((ts.take 0).flatMap sub) l).2.2.length ∧ All (blkC R [s'] 124 :: blkC P (putL C ((ts.take 0).flatMap sub) (rdsL ((ts.take 0).flatMap sub) l).2.2 vs) 36 :: (ownL (rdsL ((ts.take 0).flatMap sub) l).2.2 vs ++ cs)) w) := hid ⟨s, [], h0, rfl, A⟩
  have E0 : Hid ((rdsL ((ts.take 0).flatMap sub) l).1 = 0) := hid rfl
  have FIN : Hid (ts.take ts.length = ts) := hid (List.take_length ..)
  have HTT := hid HT
  have HBB := hid hb
  unfold TRs
  clear A hb HT h0
  generalize hLV : ts.map (thV P) = LV at *
  clear hLV
  generalize hnn : ts.length = n at *
  clear hnn
  go_enter Tryz.func73, Tryz.ntmps73
  go_wp2
  go_loopw [10] (fun iv wr => ∃ j : Nat, j ≤ n ∧ iv = .int .i64 (j : Int) ∧ Hid ((rdsL ((ts.take j).flatMap sub) l).1 = 0) ∧ Hid (∃ s' vs, Rt w0 s' (l.drop (rdsL ((ts.take j).flatMap sub) l).2.1) ∧ vs.length = (rdsL ((ts.take j).flatMap sub) l).2.2.length ∧ All (blkC R [s'] 124 :: blkC P (putL C ((ts.take j).flatMap sub) (rdsL ((ts.take j).flatMap sub) l).2.2 vs) 36 :: (ownL (rdsL ((ts.take j).flatMap sub) l).2.2 vs ++ cs)) wr)) (fun iv _ => n - (intOf iv).toNat)
  case atStart => exact ⟨0, Nat.zero_le _, rfl, E0, S0⟩
  case round =>
    obtain ⟨j, hj, rfl, hZ, hS⟩ := hrel
    clear S0 E0
    by_cases hlt : j < n
    · have hlt' : (j : Int) < (n : Int) := by omega
      obtain ⟨t, ht, hv, hm⟩ := EL.out j hlt
      obtain ⟨s1, vs1, hR1, hL1, A1⟩ := hS.out
      have hcb : wr.cell? ⟨b, j, none⟩ = some (thV P t) := cell_in A1 (t := 20) (List.mem_cons_of_mem _ (List.mem_cons_of_mem _ (List.mem_append_right _ HBB.out))) hv
      have hdrop : ∀ (xs : List Comp) V, All (xs ++ cs) V → All cs V := fun xs => by
        induction xs with
        | nil => exact fun V h => h
        | cons x r ih => exact fun V h => ih V h.tail
      have CT := hid (HTT.out t hm _ _ s1 _ wr (putL_len _ _ _ _) hR1 (hdrop _) (fun c hc => List.mem_append_right _ hc) A1)
      have ET : ts.take (j + 1) = ts.take j ++ [t] := take_at ht
      have SPL : ts.flatMap sub = (ts.take j).flatMap sub ++ sub t ++ (ts.drop (j + 1)).flatMap sub := by
        have : ts = ts.take j ++ [t] ++ ts.drop (j + 1) := by rw [← ET, List.take_append_drop]
        conv => lhs; rw [this]
        simp
      have EP : (ts.take (j + 1)).flatMap sub = (ts.take j).flatMap sub ++ sub t := by rw [ET]; simp
      have LN := rdsL_len hZ.out
      have RA := rdsL_app (b := sub t) hZ.out
      -- what the step leaves, of the longer list
      have STEP : Hid (∀ e w', TRs R P w0 (putL C ((ts.take j).flatMap sub) (rdsL ((ts.take j).flatMap sub) l).2.2 vs1) (sub t) (l.drop (rdsL ((ts.take j).flatMap sub) l).2.1) (ownL (rdsL ((ts.take j).flatMap sub) l).2.2 vs1 ++ cs) e w' → TRs R P w0 C ((ts.take j).flatMap sub ++ sub t) l cs e w') := hid (fun e w' h => by
        obtain ⟨he, s2, vs2, hR2, hL2, A2⟩ := h
        refine ⟨by rw [RA]; exact he, s2, vs1 ++ vs2, by rw [RA]; simp only [← List.drop_drop]; exact hR2, by rw [RA]; simp [hL1, hL2], ?_⟩
        rw [RA]
        simp only
        rw [putL_app LN hL1, ownL_app hL1]
        refine A2.perm (List.Perm.cons _ (List.Perm.cons _ ?_))
        rw [← List.append_assoc]
        exact List.Perm.append_right cs List.perm_append_comm)
      have CT2 := hid (CT.out.mono STEP.out)
      clear CT STEP A1 hR1 hL1 hS hv hm ht ET LN RA hdrop
      unfold TRs at CT2
      by_cases hx : (rdsL ((ts.take j).flatMap sub ++ sub t) l).1 = 0
      · rw [hx] at CT2
        have NX : Hid ((rdsL ((ts.take (j + 1)).flatMap sub) l).1 = 0) := hid (by rw [EP]; exact hx)
        rw [← EP] at CT2
        clear hx EP SPL hZ
        generalize thV P t = TV at *
        go_wp2_with (go_at_call 106; refine CT2.out.mono ?_; rintro e w2 ⟨rfl, K2⟩; have KK := hid K2; clear K2)
        go_roundw
        case rel => exact ⟨j + 1, by omega, by go_num, NX, KK⟩
        case measure => simp [intOf]; omega
      · have EX : Hid (rdsL (ts.flatMap sub) l = rdsL ((ts.take j).flatMap sub ++ sub t) l) := hid (by rw [SPL]; exact rdsL_stop hx)
        have PX : Hid (∀ c v, c.length ≤ ((ts.take j).flatMap sub ++ sub t).length → putL C (ts.flatMap sub) c v = putL C ((ts.take j).flatMap sub ++ sub t) c v) := hid (fun c v h => by rw [SPL]; exact putL_more h)
        have LX := hid (rdsL_le ((ts.take j).flatMap sub ++ sub t) l)
        have hx' : ((rdsL ((ts.take j).flatMap sub ++ sub t) l).1 == 0) = false := by simpa using hx
        clear hx EP SPL hZ
        generalize thV P t = TV at *
        generalize (ts.take j).flatMap sub ++ sub t = PT at *
        obtain ⟨rr, hrr⟩ : ∃ rr, Hid (rr = rdsL PT l) := ⟨_, hid rfl⟩
        rw [← hrr.out] at CT2 hx' EX LX
        clear hrr
        go_wp2_with (go_at_call 106; refine CT2.out.mono ?_; rintro e w2 ⟨rfl, K2⟩; have KK := hid K2; clear K2)
        go_ret
        refine ⟨by rw [EX.out]; rfl, ?_⟩
        obtain ⟨s2, vs2, hR2, hL2, A2⟩ := KK.out
        refine ⟨s2, vs2, by rw [EX.out]; exact hR2, by rw [EX.out]; exact hL2, ?_⟩
        rw [EX.out, PX.out _ _ LX.out]
        exact A2
    · have hlt' : ¬ (j : Int) < (n : Int) := by omega
      have ej : j = n := by omega
      rw [ej, FIN.out] at hZ hS
      clear ej
      go_wp2
      go_ret
      obtain ⟨s2, vs2, q1, q2, q3⟩ := hS.out
      first | exact ⟨by rw [hZ.out]; rfl, s2, q1, vs2, q2, q3⟩ | exact ⟨by rw [hZ.out]; rfl, s2, vs2, q1, q2, q3⟩
end Go.Proofs.YtfeppannfcbakaaGreatDoor

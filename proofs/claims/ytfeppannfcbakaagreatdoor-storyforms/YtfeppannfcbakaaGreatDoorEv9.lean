import Derived.Test.YtfeppannfcbakaaGreatDoorEv8
namespace Go.Proofs.YtfeppannfcbakaaGreatDoor
open Go.RowKit
set_option linter.unusedVariables false
set_option maxRecDepth 100000

/-- What a word that is read leaves behind. -/
def RWPost (P o : Nat) (C : List Value) (ok : Bool) (v : Value) (cs : List Comp) (e : Ending) (w' : World) : Prop := e = .returned (.bool ok) ∧ All (blkC P (C.set o v) 36 :: cs) w'
set_option maxHeartbeats 1600000 in
set_option maxRecDepth 1000000 in
theorem rw_int {P o : Nat} {C : List Value} {x : List UInt8} {z : Value} {cs : List Comp} {w : World} (hE : En w) (hz : C[o]? = some z) (hx : x.length ≤ 140737488355328) (A : All (blkC P C 36 :: cs) w) :
    Calls Tryz.prog 133 #[thV P (.int o), .string ⟨x.toArray⟩] w (RWPost P o C (numW x).isSome (.int .i64 (((numW x).getD 0 : Nat) : Int)) cs) := by
  have HA := hid A
  have NA := hid (Number_any (l := x) hE.v hx)
  have EA : numA x = .tuple #[.int .i64 (((numW x).getD 0 : Nat) : Int), .bool (numW x).isSome] := by unfold numA; cases numW x <;> rfl
  rw [EA] at NA
  generalize (((numW x).getD 0 : Nat) : Int) = V at *
  generalize (numW x).isSome = B at *
  have SF : Hid (∀ W, All (blkC P C 36 :: cs) W → W.cell? ⟨P, o, none⟩ = some z ∧ W.frozen? ⟨P, o, none⟩ = false ∧ P < W.heap.size) := hid (fun W hW => ⟨cell_in (P := P) hW (t := 36) (List.mem_cons_self) hz, free_at (hW.blk (g := P) (vs := C) (t := 36) (List.mem_cons_self)) o, hW.1.2.2 P (by simp [blkC])⟩)
  clear EA A hE hz
  simp only [thV]
  unfold RWPost
  generalize ByteArray.mk x.toArray = X at *
  have ta0 : ∀ W : World, (Instr.typeAssert (.iface 97 (.pointer (some ⟨P, o, none⟩))) 20 97 true).run Tryz.prog W = .ok (.tuple #[.pointer (some ⟨P, o, none⟩), .bool true]) W := fun W => by kernel_rfl
  go_enter Tryz.func133, Tryz.ntmps133
  go_wp2_with (go_at_call 81; refine NA.out.mono ?_; rintro e w1 ⟨rfl, B1⟩; have K1 := hid (HA.out.later B1); clear B1; obtain ⟨s1, s2, s3⟩ := SF.out _ K1.out; have K2 := hid (K1.out.setBlk o (.int .i64 V)))
  go_ret
  exact ⟨rfl, K2.out⟩
set_option maxHeartbeats 1600000 in
set_option maxRecDepth 1000000 in
theorem rw_cod {P o : Nat} {C : List Value} {x : List UInt8} {z : Value} {cs : List Comp} {w : World} (hE : En w) (hz : C[o]? = some z) (hx : x.length ≤ 140737488355328) (A : All (blkC P C 36 :: cs) w) :
    Calls Tryz.prog 133 #[thV P (.cod o), .string ⟨x.toArray⟩] w (RWPost P o C (numW x).isSome (.int .i64 (((numW x).getD 0 : Nat) : Int)) cs) := by
  have HA := hid A
  have NA := hid (Number_any (l := x) hE.v hx)
  have EA : numA x = .tuple #[.int .i64 (((numW x).getD 0 : Nat) : Int), .bool (numW x).isSome] := by unfold numA; cases numW x <;> rfl
  rw [EA] at NA
  generalize (((numW x).getD 0 : Nat) : Int) = V at *
  generalize (numW x).isSome = B at *
  have SF : Hid (∀ W, All (blkC P C 36 :: cs) W → W.cell? ⟨P, o, none⟩ = some z ∧ W.frozen? ⟨P, o, none⟩ = false ∧ P < W.heap.size) := hid (fun W hW => ⟨cell_in (P := P) hW (t := 36) (List.mem_cons_self) hz, free_at (hW.blk (g := P) (vs := C) (t := 36) (List.mem_cons_self)) o, hW.1.2.2 P (by simp [blkC])⟩)
  clear EA A hE hz
  simp only [thV]
  unfold RWPost
  generalize ByteArray.mk x.toArray = X at *
  have ta0 : ∀ W : World, (Instr.typeAssert (.iface 98 (.pointer (some ⟨P, o, none⟩))) 20 97 true).run Tryz.prog W = .ok (.tuple #[.pointer none, .bool false]) W := fun W => by kernel_rfl
  have ta1 : ∀ W : World, (Instr.typeAssert (.iface 98 (.pointer (some ⟨P, o, none⟩))) 20 98 true).run Tryz.prog W = .ok (.tuple #[.pointer (some ⟨P, o, none⟩), .bool true]) W := fun W => by kernel_rfl
  go_enter Tryz.func133, Tryz.ntmps133
  go_wp2_with (go_at_call 81; refine NA.out.mono ?_; rintro e w1 ⟨rfl, B1⟩; have K1 := hid (HA.out.later B1); clear B1; obtain ⟨s1, s2, s3⟩ := SF.out _ K1.out; have K2 := hid (K1.out.setBlk o (.int .i64 V)))
  go_ret
  exact ⟨rfl, K2.out⟩
set_option maxHeartbeats 1600000 in
set_option maxRecDepth 1000000 in
theorem rw_sta {P o : Nat} {C : List Value} {x : List UInt8} {z : Value} {cs : List Comp} {w : World} (hE : En w) (hz : C[o]? = some z) (hx : x.length ≤ 140737488355328) (A : All (blkC P C 36 :: cs) w) :
    Calls Tryz.prog 133 #[thV P (.sta o), .string ⟨x.toArray⟩] w (RWPost P o C (stW x).isSome (.int .i64 (((stW x).getD 0 : Nat) : Int)) cs) := by
  have HA := hid A
  have SF : Hid (∀ W, All (blkC P C 36 :: cs) W → W.cell? ⟨P, o, none⟩ = some z ∧ W.frozen? ⟨P, o, none⟩ = false ∧ P < W.heap.size) := hid (fun W hW => ⟨cell_in (P := P) hW (t := 36) (List.mem_cons_self) hz, free_at (hW.blk (g := P) (vs := C) (t := 36) (List.mem_cons_self)) o, hW.1.2.2 P (by simp [blkC])⟩)
  have HAA : Hid (All (blkC P C 36 :: blkC w.heap.size [.pointer (some ⟨P, o, none⟩)] 140 :: cs) (w.alloc (.cells #[.pointer (some ⟨P, o, none⟩)] 140)).drew) := hid (HA.out.addBlk [.pointer (some ⟨P, o, none⟩)] 140).swap.drew
  have NA : Hid (∀ W, Stt W → Calls Tryz.prog 150 #[.string ⟨x.toArray⟩] W fun e w' => e = .returned (.tuple #[.int .i64 (((stW x).getD 0 : Nat) : Int), .bool (stW x).isSome]) ∧ w' = W) := hid (fun W hW => stOf_any hW)
  have ST : Hid (Stt (w.alloc (.cells #[.pointer (some ⟨P, o, none⟩)] 140)).drew) := hid (by have := hE.s.later (ba w (.cells #[.pointer (some ⟨P, o, none⟩)] 140)); exact ⟨this.1, this.2⟩)
  have I140 : Hid ((Tryz.prog.info? 140).map (·.size) = some (#[Value.pointer (some ⟨P, o, none⟩)] : Array Value).size) := hid (by kernel_rfl)
  generalize (((stW x).getD 0 : Nat) : Int) = V at *
  generalize (stW x).isSome = B at *
  have SF3 : Hid (∀ W, All (blkC P C 36 :: blkC w.heap.size [.pointer (some ⟨P, o, none⟩)] 140 :: cs) W → W.cell? ⟨P, o, none⟩ = some z ∧ W.frozen? ⟨P, o, none⟩ = false ∧ P < W.heap.size) := hid (fun W hW => SF.out W hW.swap.tail)
  have SN : Hid (∀ W C', All (blkC P C' 36 :: blkC w.heap.size [.pointer (some ⟨P, o, none⟩)] 140 :: cs) W → W.cell? ⟨w.heap.size, 0, none⟩ = some (.pointer (some ⟨P, o, none⟩))) := hid (fun W C' hW => cell_in (P := w.heap.size) (o := 0) hW (t := 140) (List.mem_cons_of_mem _ (List.mem_cons_self)) rfl)
  have DRP : Hid (∀ W C', All (blkC P C' 36 :: blkC w.heap.size [.pointer (some ⟨P, o, none⟩)] 140 :: cs) W → All (blkC P C' 36 :: cs) W) := hid (fun W C' hW => hW.swap.tail)
  clear A hE hz SF
  simp only [thV]
  unfold RWPost
  generalize ByteArray.mk x.toArray = X at *
  have ta0 : ∀ W : World, (Instr.typeAssert (.iface 140 (.agg #[.pointer (some ⟨P, o, none⟩)])) 20 97 true).run Tryz.prog W = .ok (.tuple #[.pointer none, .bool false]) W := fun W => by kernel_rfl
  have ta1 : ∀ W : World, (Instr.typeAssert (.iface 140 (.agg #[.pointer (some ⟨P, o, none⟩)])) 20 98 true).run Tryz.prog W = .ok (.tuple #[.pointer none, .bool false]) W := fun W => by kernel_rfl
  have ta2 : ∀ W : World, (Instr.typeAssert (.iface 140 (.agg #[.pointer (some ⟨P, o, none⟩)])) 20 101 true).run Tryz.prog W = .ok (.tuple #[.pointer none, .bool false]) W := fun W => by kernel_rfl
  have ta3 : ∀ W : World, (Instr.typeAssert (.iface 140 (.agg #[.pointer (some ⟨P, o, none⟩)])) 20 140 true).run Tryz.prog W = .ok (.tuple #[.agg #[.pointer (some ⟨P, o, none⟩)], .bool true]) W := fun W => by kernel_rfl
  go_enter Tryz.func133, Tryz.ntmps133
  go_upto_region 17 with (refine wpList_store_row rfl 140 _ _ rfl w.heap.size #[.pointer (some ⟨P, o, none⟩)] rfl rfl 140 _ (heap_alloc_new w _) I140.out rfl rfl ?_; rw [World.setRow_alloc_new])
  refine wp_region_held_drew (S := (fun W => W.cell? ⟨w.heap.size, 0, none⟩ = some (.pointer (some ⟨P, o, none⟩)))) (by kernel_rfl) (SN.out _ _ HAA.out) (fun hHeld => ?_)
  generalize World.drew _ = wd at *
  obtain ⟨s1, s2, s3⟩ := SF3.out _ HAA.out
  have K2 := hid (HAA.out.setBlk o (.int .i64 V))
  refine wpAnyH_take (i := 0) (oi := { dst := Option.some 52, op := Go.Op.fieldAddr 140 (Go.Operand.tmp 10) 0, type := 0, pos := "read.go:140", after := #[], guard := Option.none }) (v := ?_) rfl (by kernel_rfl) (by kernel_rfl) (by kernel_rfl) (fun _ _ _ h => h) (Or.inl ⟨by rfl, ?_⟩) hHeld ?_
  rotate_left
  · intro W hSw
    (try dsimp only at hSw)
    go_simp
    (try with_reducible rfl)
  (try simp only [Act.put, List.setIfInBounds_toArray, List.set_cons_zero, List.set_cons_succ])
  refine wpAnyH_take (i := 1) (oi := { dst := Option.some 53, op := Go.Op.load 97 (Go.Operand.tmp 52), type := 97, pos := "read.go:140", after := #[{ on := 0, ground := Go.Ground.data }], guard := Option.none }) (v := ?_) rfl (by kernel_rfl) (by kernel_rfl) (by kernel_rfl) (fun _ _ _ h => h) (Or.inl ⟨by rfl, ?_⟩) hHeld ?_
  rotate_left
  · intro W hSw
    (try dsimp only at hSw)
    go_simp
    (try with_reducible rfl)
  (try simp only [Act.put, List.setIfInBounds_toArray, List.set_cons_zero, List.set_cons_succ])
  refine wpAnyH_take (i := 2) (oi := { dst := Option.some 54, op := Go.Op.move (Go.Operand.tmp 1), type := 9, pos := "read.go:140", after := #[], guard := Option.none }) (v := ?_) rfl (by kernel_rfl) (by kernel_rfl) (by kernel_rfl) (fun _ _ _ h => h) (Or.inl ⟨by rfl, ?_⟩) hHeld ?_
  rotate_left
  · intro W hSw
    (try dsimp only at hSw)
    go_simp
    (try with_reducible rfl)
  (try simp only [Act.put, List.setIfInBounds_toArray, List.set_cons_zero, List.set_cons_succ])
  refine wpAnyH_ready (rs := [3]) (by kernel_rfl) (by simp) ?_
  refine AllReadyH.cons (o := { dst := Option.some 55, op := Go.Op.call { callee := Go.Callee.value (Go.Operand.func 150), args := #[Go.Operand.tmp 54], argTypes := #[9] }, type := 93, pos := "read.go:140", after := #[{ on := 2, ground := Go.Ground.data }], guard := Option.none }) rfl (fun K hK => ?_) AllReadyH.nil
  go_simp
  go_at_call 150; refine (NA.out _ ST.out).mono ?_; rintro e w1 ⟨rfl, h1⟩; subst w1
  refine hK.out _ _ (SN.out _ _ HAA.out) (fun hHeld => ?_)
  clear hK K
  (try simp only [Act.put, List.setIfInBounds_toArray, List.set_cons_zero, List.set_cons_succ])
  refine wpAnyH_take (i := 4) (oi := { dst := Option.some 51, op := Go.Op.move (Go.Operand.tmp 55), type := 93, pos := "read.go:140", after := #[{ on := 3, ground := Go.Ground.data }], guard := Option.none }) (v := ?_) rfl (by kernel_rfl) (by kernel_rfl) (by kernel_rfl) (fun _ _ _ h => h) (Or.inl ⟨by rfl, ?_⟩) hHeld ?_
  rotate_left
  · intro W hSw
    (try dsimp only at hSw)
    go_simp
    (try with_reducible rfl)
  (try simp only [Act.put, List.setIfInBounds_toArray, List.set_cons_zero, List.set_cons_succ])
  refine wpAnyH_take (i := 5) (oi := { dst := Option.some 56, op := Go.Op.extract (Go.Operand.tmp 51) 0, type := 3, pos := "read.go:140", after := #[{ on := 4, ground := Go.Ground.data }], guard := Option.none }) (v := ?_) rfl (by kernel_rfl) (by kernel_rfl) (by kernel_rfl) (fun _ _ _ h => h) (Or.inl ⟨by rfl, ?_⟩) hHeld ?_
  rotate_left
  · intro W hSw
    (try dsimp only at hSw)
    go_simp
    (try with_reducible rfl)
  (try simp only [Act.put, List.setIfInBounds_toArray, List.set_cons_zero, List.set_cons_succ])
  refine wpAnyH_take (i := 6) (oi := { dst := Option.some 57, op := Go.Op.extract (Go.Operand.tmp 51) 1, type := 4, pos := "read.go:140", after := #[{ on := 4, ground := Go.Ground.data }, { on := 8, ground := Go.Ground.gcOnly Go.Departure.lateStores }], guard := Option.none }) (v := ?_) rfl (by kernel_rfl) (by kernel_rfl) (by kernel_rfl) (fun _ _ _ h => h) (Or.inl ⟨by rfl, ?_⟩) hHeld ?_
  rotate_left
  · intro W hSw
    (try dsimp only at hSw)
    go_simp
    (try with_reducible rfl)
  (try simp only [Act.put, List.setIfInBounds_toArray, List.set_cons_zero, List.set_cons_succ])
  refine wpAnyH_take (i := 7) (oi := { dst := Option.some 58, op := Go.Op.nilCheck (Go.Operand.tmp 53), type := 0, pos := "read.go:140", after := #[{ on := 1, ground := Go.Ground.data }, { on := 0, ground := Go.Ground.phase }, { on := 1, ground := Go.Ground.phase }, { on := 2, ground := Go.Ground.phase }, { on := 3, ground := Go.Ground.phase }, { on := 4, ground := Go.Ground.phase }, { on := 5, ground := Go.Ground.phase }, { on := 6, ground := Go.Ground.textOnly Go.Departure.lateStores }], guard := Option.none }) (v := ?_) rfl (by kernel_rfl) (by kernel_rfl) (by kernel_rfl) (fun _ _ _ h => h) (Or.inl ⟨by rfl, ?_⟩) hHeld ?_
  rotate_left
  · intro W hSw
    (try dsimp only at hSw)
    go_simp
    (try with_reducible rfl)
  (try simp only [Act.put, List.setIfInBounds_toArray, List.set_cons_zero, List.set_cons_succ])
  refine wpAnyH_ready (rs := [8]) (by kernel_rfl) (by simp) ?_
  refine AllReadyH.cons (o := { dst := Option.none, op := Go.Op.store 3 (Go.Operand.tmp 58) (Go.Operand.tmp 56), type := 0, pos := "read.go:140", after := #[{ on := 7, ground := Go.Ground.data }, { on := 5, ground := Go.Ground.data }, { on := 3, ground := Go.Ground.chain }, { on := 0, ground := Go.Ground.phase }, { on := 1, ground := Go.Ground.phase }, { on := 2, ground := Go.Ground.phase }, { on := 3, ground := Go.Ground.phase }, { on := 4, ground := Go.Ground.phase }, { on := 5, ground := Go.Ground.phase }, { on := 6, ground := Go.Ground.textOnly Go.Departure.lateStores }], guard := Option.none }) rfl (fun K hK => ?_) AllReadyH.nil
  go_simp
  skip
  refine hK.out _ _ (SN.out _ _ K2.out) (fun hHeld => ?_)
  clear hK K
  (try simp only [Act.put, List.setIfInBounds_toArray, List.set_cons_zero, List.set_cons_succ])
  refine wpAnyH_take (i := 9) (oi := { dst := Option.some 5, op := Go.Op.assign (Go.Operand.tmp 57), type := 4, pos := "read.go:140", after := #[{ on := 6, ground := Go.Ground.data }, { on := 8, ground := Go.Ground.chain }, { on := 0, ground := Go.Ground.phase }, { on := 1, ground := Go.Ground.phase }, { on := 2, ground := Go.Ground.phase }, { on := 3, ground := Go.Ground.phase }, { on := 4, ground := Go.Ground.phase }, { on := 5, ground := Go.Ground.phase }, { on := 6, ground := Go.Ground.phase }, { on := 7, ground := Go.Ground.phase }, { on := 8, ground := Go.Ground.phase }], guard := Option.none }) (v := ?_) rfl (by kernel_rfl) (by kernel_rfl) (by kernel_rfl) (fun _ _ _ h => h) (Or.inl ⟨by rfl, ?_⟩) hHeld ?_
  rotate_left
  · intro W hSw
    (try dsimp only at hSw)
    go_simp
    (try with_reducible rfl)
  (try simp only [Act.put, List.setIfInBounds_toArray, List.set_cons_zero, List.set_cons_succ])
  refine wpAnyH_done (by kernel_rfl) ?_ _
  clear hHeld
  go_wp2
  go_ret
  exact ⟨rfl, DRP.out _ _ K2.out⟩
set_option maxHeartbeats 1600000 in
set_option maxRecDepth 1000000 in
theorem rw_fre {P o : Nat} {C : List Value} {x : List UInt8} {z : Value} {cs : List Comp} {w : World} (hE : En w) (hz : C[o]? = some z) (hx : x.length ≤ 140737488355328) (A : All (blkC P C 36 :: cs) w) :
    Calls Tryz.prog 133 #[thV P (.fre o), .string ⟨x.toArray⟩] w (RWPost P o C (decide (x = [102, 114, 101, 115, 104]) || decide (x = [111, 108, 100])) (.bool (decide (x = [102, 114, 101, 115, 104]))) cs) := by
  have HA := hid A
  have SF : Hid (∀ W, All (blkC P C 36 :: cs) W → W.cell? ⟨P, o, none⟩ = some z ∧ W.frozen? ⟨P, o, none⟩ = false ∧ P < W.heap.size) := hid (fun W hW => ⟨cell_in (P := P) hW (t := 36) (List.mem_cons_self) hz, free_at (hW.blk (g := P) (vs := C) (t := 36) (List.mem_cons_self)) o, hW.1.2.2 P (by simp [blkC])⟩)
  obtain ⟨s1, s2, s3⟩ := SF.out _ HA.out
  have K2 := hid (HA.out.setBlk o (.bool (decide (x = [102, 114, 101, 115, 104]))))
  have s4 : (w.setCell ⟨P, o, none⟩ (.bool (decide (x = [102, 114, 101, 115, 104])))).cell? ⟨P, o, none⟩ = some (.bool (decide (x = [102, 114, 101, 115, 104]))) := by
    rw [cell_at (K2.out.blk (g := P) (vs := C.set o (.bool (decide (x = [102, 114, 101, 115, 104])))) (t := 36) (List.mem_cons_self)), List.getElem?_toArray, List.getElem?_set_self ((List.getElem?_eq_some_iff.1 hz).1)]
  have q1 : ((⟨x.toArray⟩ : ByteArray).toList == [102, 114, 101, 115, 104]) = decide (x = [102, 114, 101, 115, 104]) := by rw [Lib.toList_data, Bool.eq_iff_iff]; simp
  have q2 : ((⟨x.toArray⟩ : ByteArray).toList == [111, 108, 100]) = decide (x = [111, 108, 100]) := by rw [Lib.toList_data, Bool.eq_iff_iff]; simp
  clear A hE hz SF
  simp only [thV]
  unfold RWPost
  generalize decide (x = [102, 114, 101, 115, 104]) = B1 at *
  generalize decide (x = [111, 108, 100]) = B2 at *
  generalize ByteArray.mk x.toArray = X at *
  have ta0 : ∀ W : World, (Instr.typeAssert (.iface 101 (.pointer (some ⟨P, o, none⟩))) 20 97 true).run Tryz.prog W = .ok (.tuple #[.pointer none, .bool false]) W := fun W => by kernel_rfl
  have ta1 : ∀ W : World, (Instr.typeAssert (.iface 101 (.pointer (some ⟨P, o, none⟩))) 20 98 true).run Tryz.prog W = .ok (.tuple #[.pointer none, .bool false]) W := fun W => by kernel_rfl
  have ta2 : ∀ W : World, (Instr.typeAssert (.iface 101 (.pointer (some ⟨P, o, none⟩))) 20 101 true).run Tryz.prog W = .ok (.tuple #[.pointer (some ⟨P, o, none⟩), .bool true]) W := fun W => by kernel_rfl
  cases B1
  all_goals
    go_enter Tryz.func133, Tryz.ntmps133
    go_wp2
    go_ret
    exact ⟨by simp, K2.out⟩
set_option maxHeartbeats 1600000 in
set_option maxRecDepth 1000000 in
theorem rw_dat {P o : Nat} {C : List Value} {x : List UInt8} {z : Value} {cs : List Comp} {w : World} (hE : En w) (hz : C[o]? = some z) (hx : x.length ≤ 140737488355328) (A : All (blkC P C 36 :: cs) w) :
    Calls Tryz.prog 133 #[thV P (.dat o), .string ⟨x.toArray⟩] w (fun e w1 => ∃ v, e = .returned (.bool (datR x).isSome) ∧ All (blkC P (C.set o v) 36 :: ownC 5 v (cellsB ((datR x).getD [])) :: cs) w1) := by
  have HA := hid A
  have SF : Hid (∀ W, All (blkC P C 36 :: cs) W → W.cell? ⟨P, o, none⟩ = some z ∧ W.frozen? ⟨P, o, none⟩ = false ∧ P < W.heap.size) := hid (fun W hW => ⟨cell_in (P := P) hW (t := 36) (List.mem_cons_self) hz, free_at (hW.blk (g := P) (vs := C) (t := 36) (List.mem_cons_self)) o, hW.1.2.2 P (by simp [blkC])⟩)
  have NA := hid (readData_any (l := x) HA.out hx)
  have SF2 : Hid (∀ v l W, All (ownC 5 v l :: blkC P C 36 :: cs) W → W.cell? ⟨P, o, none⟩ = some z ∧ W.frozen? ⟨P, o, none⟩ = false ∧ P < W.heap.size) := hid (fun v l W hW => SF.out W hW.tail)
  clear A hE hz SF
  simp only [thV]
  generalize ByteArray.mk x.toArray = X at *
  have ta0 : ∀ W : World, (Instr.typeAssert (.iface 141 (.pointer (some ⟨P, o, none⟩))) 20 97 true).run Tryz.prog W = .ok (.tuple #[.pointer none, .bool false]) W := fun W => by kernel_rfl
  have ta1 : ∀ W : World, (Instr.typeAssert (.iface 141 (.pointer (some ⟨P, o, none⟩))) 20 98 true).run Tryz.prog W = .ok (.tuple #[.pointer none, .bool false]) W := fun W => by kernel_rfl
  have ta2 : ∀ W : World, (Instr.typeAssert (.iface 141 (.pointer (some ⟨P, o, none⟩))) 20 101 true).run Tryz.prog W = .ok (.tuple #[.pointer none, .bool false]) W := fun W => by kernel_rfl
  have ta3 : ∀ W : World, (Instr.typeAssert (.iface 141 (.pointer (some ⟨P, o, none⟩))) 20 140 true).run Tryz.prog W = .ok (.tuple #[.agg #[.pointer none], .bool false]) W := fun W => by kernel_rfl
  have ta4 : ∀ W : World, (Instr.typeAssert (.iface 141 (.pointer (some ⟨P, o, none⟩))) 20 141 true).run Tryz.prog W = .ok (.tuple #[.pointer (some ⟨P, o, none⟩), .bool true]) W := fun W => by kernel_rfl
  go_enter Tryz.func133, Tryz.ntmps133
  go_wp2_with (go_at_call 151; refine NA.out.mono ?_; rintro e w1 ⟨v1, rfl, A1⟩; obtain ⟨ao1, c1, rfl⟩ := owns_form A1.1.2.1; obtain ⟨s1, s2, s3⟩ := SF2.out _ _ _ A1; have K2 := hid (A1.swap.setBlk o (.slice ao1 (cellsB ((datR x).getD [])).length c1)); clear A1)
  go_ret
  exact ⟨_, rfl, K2.out⟩
end Go.Proofs.YtfeppannfcbakaaGreatDoor

import Derived.Test.YtdhkdniddjnigaaGreatDoorPx5
namespace Go.Proofs.YtdhkdniddjnigaaGreatDoor
open Go.RowKit
set_option linter.unusedVariables false

theorem Tryz.inf41 : (Tryz.prog.info? 51).map (fun i => (i.zero, i.size, i.bytes)) = some (some (.agg zM.cells.toArray), 23, 264) := by kernel_rfl
theorem fill_of {F : Nat → Option (Nat × Nat)} {Z : Array Value} {L L' : List (Nat × Value)} {C : Array Value} (h : Instr.fill F Z L = some C) (e : L' = L) : Instr.fill F Z L' = some C := e ▸ h
/-- A list of one message, laid. -/
structure Bs (ie : TypeInfo) (z : Value) (C : Array Value) : Prop where
  i : Tryz.prog.info? 51 = some ie
  o : ie.zero = some z
  s : ¬ 1 * ie.size > 2 ^ 24
  p : ¬ 1 * ie.size = 0
  f : Instr.fill (fun i => some (i * ie.size, ie.size)) ((Array.range (1 * ie.size)).map (z.cells[· % z.cells.size]!)) [(0, .agg C)] = some C
theorem und49 : Tryz.prog.underlying 59 = some (.slice 51) := by kernel_rfl
theorem bs41 (m : Ms) : ∃ ie z, Bs ie z m.cells.toArray := by
  obtain ⟨i1, hi1, hz0, hz1, hz2⟩ := info_parts Tryz.inf41
  refine ⟨i1, _, hi1, hz0, by rw [hz1]; decide, by rw [hz1]; decide, ?_⟩
  rw [hz1]
  kernel_rfl
/-- The state behind a request that began. -/
def Px.sub (x : Px) (k : Int) (nm tx : ByteArray) (a d n1 : Int) : Px := { x with rq := { x.rq with num := x.rq.num + 1, wts := true, ok := k, onm := nm, otx := tx, on := a, om := d, left := n1 } }

set_option maxHeartbeats 1600000 in
set_option maxRecDepth 1000000 in
/-- Submit of an op that may be, where nothing waits. -/
theorem submit_ok {P : Nat} {x : Px} {b m n1 n2 : Int} {cs : List Comp} {w w0 : World} (h : All (pxL P x b m n1 n2 ++ cs) w) (hT : Tab w0) (hin : inC w0 ∈ cs) (k : Int) (nm tx : ByteArray) (a d : Int) (hc : chkA k nm.size tx.size a d = 0) (hw : x.rq.wts = false) (hn : 0 ≤ x.rq.num) (hn2 : x.rq.num < 1099511627776) (h1 : 1 ≤ n1) (h2 : n1 ≤ m) (h3 : m ≤ 1024) (hN : x.n = 3 ∨ x.n = 5 ∨ x.n = 7) (hv : 0 ≤ x.view) :
    Calls Tryz.prog 191 #[.pointer (some ⟨P, 0, none⟩), opV k nm tx a d] w fun e w' => ∃ G, e = .returned (.tuple #[.slice (some ⟨G, 0, none⟩) 1 1, .int .i64 0]) ∧ All (blkC G (rqM x.id (x.view.tmod x.n) (x.sub k nm tx a d n1).rq).cells 51 :: (pxL P (x.sub k nm tx a d n1) b m (min (2 * n1) m) n2 ++ cs)) w' := by
  obtain ⟨H, hH⟩ : ∃ H, Hid (H = w.heap.size) := ⟨_, hid rfl⟩
  have A1 := hid (h.addBlk [.int .i64 k, .string nm, .string tx, .int .i64 a, .int .i64 d] 42)
  rw [← hH.out] at A1
  have A1 := hid (A1.out.perm (List.perm_middle (l₁ := pxL P x b m n1 n2)).symm)
  have C : Hid (Calls Tryz.prog 169 #[opV k nm tx a d] (w.alloc (.cells #[.int .i64 k, .string nm, .string tx, .int .i64 a, .int .i64 d] 42)) fun e w' => e = .returned (.int .i64 0) ∧ Below (w.alloc (.cells #[.int .i64 k, .string nm, .string tx, .int .i64 a, .int .i64 d] 42)).heap.size (w.alloc (.cells #[.int .i64 k, .string nm, .string tx, .int .i64 a, .int .i64 d] 42)) w') := hid (by
    have := check_any (hT.below (A1.out.into (List.mem_append_right _ (List.mem_cons_of_mem _ hin)))) k nm tx a d
    rw [hc] at this
    exact this)
  have HC : Hid (∀ W cs', All (pxL P x b m n1 n2 ++ cs') W → Calls Tryz.prog 212 #[.pointer (some ⟨P, 4, none⟩), opV k nm tx a d] W fun e w' => e = .returned (.int .i64 0) ∧ All (pxL P (x.sub k nm tx a d n1) b m (min (2 * n1) m) n2 ++ cs') w') := hid (fun W cs' hW => begR_ok hW hw hn hn2 h1 h2 h3 k nm tx a d)
  have C26 : Hid (∀ W : World, Calls Tryz.prog 213 #[.int .i64 x.n, .int .i64 x.view] W fun e w' => e = .returned (.int .i64 (x.view.tmod x.n)) ∧ w' = W) := hid (fun W => primary_any x.n x.view hN hv)
  obtain ⟨to', hto⟩ : ∃ t, Hid (t = x.view.tmod x.n) := ⟨_, hid rfl⟩
  rw [← hto.out] at C26 ⊢
  have C25 : Hid (∀ W, All (pxL P (x.sub k nm tx a d n1) b m (min (2 * n1) m) n2 ++ (blkC H [.int .i64 k, .string nm, .string tx, .int .i64 a, .int .i64 d] 42 :: cs)) W → Calls Tryz.prog 78 #[.pointer (some ⟨P, 4, none⟩), .int .i64 x.id, .int .i64 to'] W fun e w' => e = .returned (.agg (rqM x.id to' (x.sub k nm tx a d n1).rq).cells.toArray) ∧ Below W.heap.size W w') := hid (fun W hW => msgR hW x.id to')
  obtain ⟨ie, z, bs⟩ := bs41 (rqM x.id to' (x.sub k nm tx a d n1).rq)
  have BS := hid bs
  obtain ⟨MM, hMM⟩ : ∃ MM, Hid (MM = (rqM x.id to' (x.sub k nm tx a d n1).rq).cells) := ⟨_, hid rfl⟩
  rw [← hMM.out] at BS C25 ⊢
  have SG : Hid (∀ W cs', All (pxL P (x.sub k nm tx a d n1) b m (min (2 * n1) m) n2 ++ cs') W → (fun W => W.cell? ⟨P, 0, none⟩ = some (.int .i64 x.n) ∧ W.cell? ⟨P, 1, none⟩ = some (.int .i64 x.id) ∧ W.cell? ⟨P, 2, none⟩ = some (.int .i64 x.view)) W) := hid (fun W cs' hW => ⟨by rw [cell_at hW.px]; rfl, by rw [cell_at hW.px]; rfl, by rw [cell_at hW.px]; rfl⟩)
  have SG : Hid (∀ W, All (pxL P (x.sub k nm tx a d n1) b m (min (2 * n1) m) n2 ++ (blkC H [.int .i64 k, .string nm, .string tx, .int .i64 a, .int .i64 d] 42 :: cs)) W → (fun W => W.cell? ⟨P, 0, none⟩ = some (.int .i64 x.n) ∧ W.cell? ⟨P, 1, none⟩ = some (.int .i64 x.id) ∧ W.cell? ⟨P, 2, none⟩ = some (.int .i64 x.view)) W) := hid (fun W hW => SG.out W _ hW)
  clear h hT hin hc hw hn hn2 h1 h2 h3 hN hv bs
  go_enter Tryz.func191, Tryz.ntmps191
  go_wp2_with fail
  refine C.out.mono ?_
  rintro e w1 ⟨rfl, BB⟩
  have A2 : Hid (All (pxL P x b m n1 n2 ++ (blkC H [.int .i64 k, .string nm, .string tx, .int .i64 a, .int .i64 d] 42 :: cs)) w1) := hid (A1.out.later BB)
  simp only [← hH.out]
  clear BB C A1
  have SF : Hid (∀ W y p q, All (pxL P y b m p q ++ (blkC H [.int .i64 k, .string nm, .string tx, .int .i64 a, .int .i64 d] 42 :: cs)) W → W.cell? ⟨H, 0, none⟩ = some (.int .i64 k) ∧ W.cell? ⟨H, 1, none⟩ = some (.string nm) ∧ W.cell? ⟨H, 2, none⟩ = some (.string tx) ∧ W.cell? ⟨H, 3, none⟩ = some (.int .i64 a) ∧ W.cell? ⟨H, 4, none⟩ = some (.int .i64 d)) := hid (fun W y p q hW => opCells (hW.blk (by simp)))
  go_upto_region 4 with fail
  have A3 := hid A2.out.drew
  have p0 := hid (SF.out _ _ _ _ A3.out)
  go_region_held3 (fun W => W.cell? ⟨H, 0, none⟩ = some (.int .i64 k) ∧ W.cell? ⟨H, 1, none⟩ = some (.string nm) ∧ W.cell? ⟨H, 2, none⟩ = some (.string tx) ∧ W.cell? ⟨H, 3, none⟩ = some (.int .i64 a) ∧ W.cell? ⟨H, 4, none⟩ = some (.int .i64 d)) (first | with_reducible exact p0.out | with_reducible exact p1.out)
    (first
      | (go_at_call 212; refine (HC.out _ _ A3.out).mono ?_; rintro e w2 ⟨rfl, hw2⟩; have A4 := hid hw2; have p1 := hid (SF.out _ _ _ _ A4.out); clear hw2))
  clear p0 p1 A3 A2 SF HC
  go_upto_region 7 with fail
  have A4 := hid A4.out.drew
  have p0 := hid (SG.out _ A4.out)
  refine wp_region_held_drew (S := (fun W => W.cell? ⟨P, 0, none⟩ = some (.int .i64 x.n) ∧ W.cell? ⟨P, 1, none⟩ = some (.int .i64 x.id) ∧ W.cell? ⟨P, 2, none⟩ = some (.int .i64 x.view))) (by kernel_rfl) p0.out (fun hHeld => ?_)
  refine wpAnyH_take (i := 0) (oi := { dst := some 22, op := Go.Op.move (Go.Operand.tmp 0), type := 70, pos := "proxy.go:41", after := #[], guard := none }) (v := ?_) rfl (by kernel_rfl) (by kernel_rfl) (by kernel_rfl) (fun _ _ _ h => h) (Or.inl ⟨by rfl, ?_⟩) hHeld ?_
  rotate_left
  · intro W hSw
    (try dsimp only at hSw)
    go_simp
    (try with_reducible rfl)
  (try simp only [Act.put, List.setIfInBounds_toArray, List.set_cons_zero, List.set_cons_succ])
  refine wpAnyH_take (i := 1) (oi := { dst := some 23, op := Go.Op.nilCheck (Go.Operand.tmp 22), type := 0, pos := "proxy.go:41", after := #[{ on := 0, ground := Go.Ground.data }], guard := none }) (v := ?_) rfl (by kernel_rfl) (by kernel_rfl) (by kernel_rfl) (fun _ _ _ h => h) (Or.inl ⟨by rfl, ?_⟩) hHeld ?_
  rotate_left
  · intro W hSw
    (try dsimp only at hSw)
    go_simp
    (try with_reducible rfl)
  (try simp only [Act.put, List.setIfInBounds_toArray, List.set_cons_zero, List.set_cons_succ])
  refine wpAnyH_take (i := 2) (oi := { dst := some 24, op := Go.Op.fieldAddr 111 (Go.Operand.tmp 23) 4, type := 0, pos := "proxy.go:41", after := #[{ on := 1, ground := Go.Ground.data }], guard := none }) (v := ?_) rfl (by kernel_rfl) (by kernel_rfl) (by kernel_rfl) (fun _ _ _ h => h) (Or.inl ⟨by rfl, ?_⟩) hHeld ?_
  rotate_left
  · intro W hSw
    (try dsimp only at hSw)
    go_simp
    (try with_reducible rfl)
  (try simp only [Act.put, List.setIfInBounds_toArray, List.set_cons_zero, List.set_cons_succ])
  refine wpAnyH_take (i := 3) (oi := { dst := some 25, op := Go.Op.move (Go.Operand.tmp 0), type := 70, pos := "proxy.go:41", after := #[], guard := none }) (v := ?_) rfl (by kernel_rfl) (by kernel_rfl) (by kernel_rfl) (fun _ _ _ h => h) (Or.inl ⟨by rfl, ?_⟩) hHeld ?_
  rotate_left
  · intro W hSw
    (try dsimp only at hSw)
    go_simp
    (try with_reducible rfl)
  (try simp only [Act.put, List.setIfInBounds_toArray, List.set_cons_zero, List.set_cons_succ])
  refine wpAnyH_take (i := 4) (oi := { dst := some 26, op := Go.Op.nilCheck (Go.Operand.tmp 25), type := 0, pos := "proxy.go:41", after := #[{ on := 3, ground := Go.Ground.data }], guard := none }) (v := ?_) rfl (by kernel_rfl) (by kernel_rfl) (by kernel_rfl) (fun _ _ _ h => h) (Or.inl ⟨by rfl, ?_⟩) hHeld ?_
  rotate_left
  · intro W hSw
    (try dsimp only at hSw)
    go_simp
    (try with_reducible rfl)
  (try simp only [Act.put, List.setIfInBounds_toArray, List.set_cons_zero, List.set_cons_succ])
  refine wpAnyH_take (i := 5) (oi := { dst := some 27, op := Go.Op.fieldAddr 111 (Go.Operand.tmp 26) 1, type := 0, pos := "proxy.go:41", after := #[{ on := 4, ground := Go.Ground.data }], guard := none }) (v := ?_) rfl (by kernel_rfl) (by kernel_rfl) (by kernel_rfl) (fun _ _ _ h => h) (Or.inl ⟨by rfl, ?_⟩) hHeld ?_
  rotate_left
  · intro W hSw
    (try dsimp only at hSw)
    go_simp
    (try with_reducible rfl)
  (try simp only [Act.put, List.setIfInBounds_toArray, List.set_cons_zero, List.set_cons_succ])
  refine wpAnyH_take (i := 6) (oi := { dst := some 28, op := Go.Op.load 3 (Go.Operand.tmp 27), type := 3, pos := "proxy.go:41", after := #[{ on := 5, ground := Go.Ground.data }], guard := none }) (v := ?_) rfl (by kernel_rfl) (by kernel_rfl) (by kernel_rfl) (fun _ _ _ h => h) (Or.inl ⟨by rfl, ?_⟩) hHeld ?_
  rotate_left
  · intro W hSw
    (try dsimp only at hSw)
    go_simp
    (try with_reducible rfl)
  (try simp only [Act.put, List.setIfInBounds_toArray, List.set_cons_zero, List.set_cons_succ])
  refine wpAnyH_take (i := 7) (oi := { dst := some 29, op := Go.Op.move (Go.Operand.tmp 0), type := 70, pos := "proxy.go:41", after := #[], guard := none }) (v := ?_) rfl (by kernel_rfl) (by kernel_rfl) (by kernel_rfl) (fun _ _ _ h => h) (Or.inl ⟨by rfl, ?_⟩) hHeld ?_
  rotate_left
  · intro W hSw
    (try dsimp only at hSw)
    go_simp
    (try with_reducible rfl)
  (try simp only [Act.put, List.setIfInBounds_toArray, List.set_cons_zero, List.set_cons_succ])
  refine wpAnyH_take (i := 8) (oi := { dst := some 30, op := Go.Op.nilCheck (Go.Operand.tmp 29), type := 0, pos := "proxy.go:41", after := #[{ on := 7, ground := Go.Ground.data }], guard := none }) (v := ?_) rfl (by kernel_rfl) (by kernel_rfl) (by kernel_rfl) (fun _ _ _ h => h) (Or.inl ⟨by rfl, ?_⟩) hHeld ?_
  rotate_left
  · intro W hSw
    (try dsimp only at hSw)
    go_simp
    (try with_reducible rfl)
  (try simp only [Act.put, List.setIfInBounds_toArray, List.set_cons_zero, List.set_cons_succ])
  refine wpAnyH_take (i := 9) (oi := { dst := some 31, op := Go.Op.fieldAddr 111 (Go.Operand.tmp 30) 0, type := 0, pos := "proxy.go:41", after := #[{ on := 8, ground := Go.Ground.data }], guard := none }) (v := ?_) rfl (by kernel_rfl) (by kernel_rfl) (by kernel_rfl) (fun _ _ _ h => h) (Or.inl ⟨by rfl, ?_⟩) hHeld ?_
  rotate_left
  · intro W hSw
    (try dsimp only at hSw)
    go_simp
    (try with_reducible rfl)
  (try simp only [Act.put, List.setIfInBounds_toArray, List.set_cons_zero, List.set_cons_succ])
  refine wpAnyH_take (i := 10) (oi := { dst := some 32, op := Go.Op.load 3 (Go.Operand.tmp 31), type := 3, pos := "proxy.go:41", after := #[{ on := 9, ground := Go.Ground.data }], guard := none }) (v := ?_) rfl (by kernel_rfl) (by kernel_rfl) (by kernel_rfl) (fun _ _ _ h => h) (Or.inl ⟨by rfl, ?_⟩) hHeld ?_
  rotate_left
  · intro W hSw
    (try dsimp only at hSw)
    go_simp
    (try with_reducible rfl)
  (try simp only [Act.put, List.setIfInBounds_toArray, List.set_cons_zero, List.set_cons_succ])
  refine wpAnyH_take (i := 11) (oi := { dst := some 33, op := Go.Op.move (Go.Operand.tmp 0), type := 70, pos := "proxy.go:41", after := #[], guard := none }) (v := ?_) rfl (by kernel_rfl) (by kernel_rfl) (by kernel_rfl) (fun _ _ _ h => h) (Or.inl ⟨by rfl, ?_⟩) hHeld ?_
  rotate_left
  · intro W hSw
    (try dsimp only at hSw)
    go_simp
    (try with_reducible rfl)
  (try simp only [Act.put, List.setIfInBounds_toArray, List.set_cons_zero, List.set_cons_succ])
  refine wpAnyH_take (i := 12) (oi := { dst := some 34, op := Go.Op.nilCheck (Go.Operand.tmp 33), type := 0, pos := "proxy.go:41", after := #[{ on := 11, ground := Go.Ground.data }], guard := none }) (v := ?_) rfl (by kernel_rfl) (by kernel_rfl) (by kernel_rfl) (fun _ _ _ h => h) (Or.inl ⟨by rfl, ?_⟩) hHeld ?_
  rotate_left
  · intro W hSw
    (try dsimp only at hSw)
    go_simp
    (try with_reducible rfl)
  (try simp only [Act.put, List.setIfInBounds_toArray, List.set_cons_zero, List.set_cons_succ])
  refine wpAnyH_take (i := 13) (oi := { dst := some 35, op := Go.Op.fieldAddr 111 (Go.Operand.tmp 34) 2, type := 0, pos := "proxy.go:41", after := #[{ on := 12, ground := Go.Ground.data }], guard := none }) (v := ?_) rfl (by kernel_rfl) (by kernel_rfl) (by kernel_rfl) (fun _ _ _ h => h) (Or.inl ⟨by rfl, ?_⟩) hHeld ?_
  rotate_left
  · intro W hSw
    (try dsimp only at hSw)
    go_simp
    (try with_reducible rfl)
  (try simp only [Act.put, List.setIfInBounds_toArray, List.set_cons_zero, List.set_cons_succ])
  refine wpAnyH_take (i := 14) (oi := { dst := some 36, op := Go.Op.load 3 (Go.Operand.tmp 35), type := 3, pos := "proxy.go:41", after := #[{ on := 13, ground := Go.Ground.data }], guard := none }) (v := ?_) rfl (by kernel_rfl) (by kernel_rfl) (by kernel_rfl) (fun _ _ _ h => h) (Or.inl ⟨by rfl, ?_⟩) hHeld ?_
  rotate_left
  · intro W hSw
    (try dsimp only at hSw)
    go_simp
    (try with_reducible rfl)
  (try simp only [Act.put, List.setIfInBounds_toArray, List.set_cons_zero, List.set_cons_succ])
  refine wpAnyH_ready (rs := [15]) (by kernel_rfl) (by simp) ?_
  refine AllReadyH.cons (o := { dst := some 37, op := Go.Op.call { callee := Go.Callee.value (Go.Operand.func 213), args := #[Go.Operand.tmp 32, Go.Operand.tmp 36], argTypes := #[3, 3] }, type := 3, pos := "proxy.go:41", after := #[{ on := 10, ground := Go.Ground.data }, { on := 14, ground := Go.Ground.data }], guard := none }) rfl (fun K hK => ?_) AllReadyH.nil
  go_simp
  refine (C26.out _).mono ?_; rintro e w4 ⟨rfl, hw4⟩; have A5 : Hid (All (pxL P (x.sub k nm tx a d n1) b m (min (2 * n1) m) n2 ++ (blkC H [.int .i64 k, .string nm, .string tx, .int .i64 a, .int .i64 d] 42 :: cs)) w4) := hid (by rw [hw4]; exact A4.out); have p1 := hid (SG.out _ A5.out); clear hw4
  refine hK.out _ _ p1.out (fun hHeld => ?_)
  clear hK K
  (try simp only [Act.put, List.setIfInBounds_toArray, List.set_cons_zero, List.set_cons_succ])
  refine wpAnyH_ready (rs := [16]) (by kernel_rfl) (by simp) ?_
  refine AllReadyH.cons (o := { dst := some 38, op := Go.Op.call { callee := Go.Callee.value (Go.Operand.func 78), args := #[Go.Operand.tmp 24, Go.Operand.tmp 28, Go.Operand.tmp 37], argTypes := #[107, 3, 3] }, type := 51, pos := "proxy.go:41", after := #[{ on := 2, ground := Go.Ground.data }, { on := 6, ground := Go.Ground.data }, { on := 15, ground := Go.Ground.data }, { on := 15, ground := Go.Ground.chain }], guard := none }) rfl (fun K hK => ?_) AllReadyH.nil
  go_simp
  refine (C25.out _ A5.out).mono ?_; rintro e w5 ⟨rfl, hw5⟩; have A6 := hid (A5.out.later hw5); have p2 := hid (SG.out _ A6.out); clear hw5
  refine hK.out _ _ p2.out (fun hHeld => ?_)
  clear hK K
  (try simp only [Act.put, List.setIfInBounds_toArray, List.set_cons_zero, List.set_cons_succ])
  refine wpAnyH_ready (rs := [17]) (by kernel_rfl) (by simp) ?_
  refine AllReadyH.cons (o := { dst := some 39, op := Go.Op.buildSlice 59 1 #[(0, Go.Operand.tmp 38)], type := 59, pos := "proxy.go:41", after := #[{ on := 16, ground := Go.Ground.data }], guard := none }) rfl (fun K hK => ?_) AllReadyH.nil
  rw [if_pos (by rfl)]
  refine wp_buildSlice 59 51 1 _ rfl MM.toArray ie z und49 BS.out.i BS.out.o BS.out.s BS.out.p (fill_of BS.out.f (by kernel_rfl)) ?_; have A7 := hid (A6.out.addBlk MM 51); have p3 := hid (SG.out _ A7.out.tail)
  refine hK.out _ _ p3.out (fun hHeld => ?_)
  clear hK K
  (try simp only [Act.put, List.setIfInBounds_toArray, List.set_cons_zero, List.set_cons_succ])
  refine wpAnyH_take (i := 18) (oi := { dst := some 4, op := Go.Op.assign (Go.Operand.tmp 39), type := 59, pos := "proxy.go:41", after := #[{ on := 17, ground := Go.Ground.data }, { on := 16, ground := Go.Ground.chain }, { on := 0, ground := Go.Ground.phase }, { on := 1, ground := Go.Ground.phase }, { on := 2, ground := Go.Ground.phase }, { on := 3, ground := Go.Ground.phase }, { on := 4, ground := Go.Ground.phase }, { on := 5, ground := Go.Ground.phase }, { on := 6, ground := Go.Ground.phase }, { on := 7, ground := Go.Ground.phase }, { on := 8, ground := Go.Ground.phase }, { on := 9, ground := Go.Ground.phase }, { on := 10, ground := Go.Ground.phase }, { on := 11, ground := Go.Ground.phase }, { on := 12, ground := Go.Ground.phase }, { on := 13, ground := Go.Ground.phase }, { on := 14, ground := Go.Ground.phase }, { on := 15, ground := Go.Ground.phase }, { on := 16, ground := Go.Ground.phase }, { on := 17, ground := Go.Ground.phase }], guard := none }) (v := ?_) rfl (by kernel_rfl) (by kernel_rfl) (by kernel_rfl) (fun _ _ _ h => h) (Or.inl ⟨by rfl, ?_⟩) hHeld ?_
  rotate_left
  · intro W hSw
    (try dsimp only at hSw)
    go_simp
    (try with_reducible rfl)
  (try simp only [Act.put, List.setIfInBounds_toArray, List.set_cons_zero, List.set_cons_succ])
  refine wpAnyH_take (i := 19) (oi := { dst := some 5, op := Go.Op.assign (Go.Operand.const (Go.Value.int Go.IntKind.i64 0)), type := 35, pos := "proxy.go:41", after := #[{ on := 18, ground := Go.Ground.chain }, { on := 0, ground := Go.Ground.phase }, { on := 1, ground := Go.Ground.phase }, { on := 2, ground := Go.Ground.phase }, { on := 3, ground := Go.Ground.phase }, { on := 4, ground := Go.Ground.phase }, { on := 5, ground := Go.Ground.phase }, { on := 6, ground := Go.Ground.phase }, { on := 7, ground := Go.Ground.phase }, { on := 8, ground := Go.Ground.phase }, { on := 9, ground := Go.Ground.phase }, { on := 10, ground := Go.Ground.phase }, { on := 11, ground := Go.Ground.phase }, { on := 12, ground := Go.Ground.phase }, { on := 13, ground := Go.Ground.phase }, { on := 14, ground := Go.Ground.phase }, { on := 15, ground := Go.Ground.phase }, { on := 16, ground := Go.Ground.phase }, { on := 17, ground := Go.Ground.phase }, { on := 18, ground := Go.Ground.phase }], guard := none }) (v := ?_) rfl (by kernel_rfl) (by kernel_rfl) (by kernel_rfl) (fun _ _ _ h => h) (Or.inl ⟨by rfl, ?_⟩) hHeld ?_
  rotate_left
  · intro W hSw
    (try dsimp only at hSw)
    go_simp
    (try with_reducible rfl)
  (try simp only [Act.put, List.setIfInBounds_toArray, List.set_cons_zero, List.set_cons_succ])
  refine wpAnyH_done (by kernel_rfl) ?_ _
  clear hHeld
  clear p0 p1 p2 p3 SG C26 C25
  obtain ⟨G, hG⟩ : ∃ G, Hid (G = w5.heap.size) := ⟨_, hid rfl⟩
  rw [← hG.out] at A7
  simp only [← hG.out]
  generalize w5.alloc (.cells MM.toArray 51) = w6 at A7 ⊢
  go_wp2
  go_ret2
  exact ⟨G, rfl, (A7.out.perm (List.Perm.cons _ (List.perm_middle (l₁ := pxL P (x.sub k nm tx a d n1) b m (min (2 * n1) m) n2)))).swap.tail⟩
end Go.Proofs.YtdhkdniddjnigaaGreatDoor

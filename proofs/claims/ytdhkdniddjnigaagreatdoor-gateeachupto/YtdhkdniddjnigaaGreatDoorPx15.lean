import Derived.Test.YtdhkdniddjnigaaGreatDoorPx14
namespace Go.Proofs.YtdhkdniddjnigaaGreatDoor
open Go.RowKit
set_option linter.unusedVariables false

def Px.askd (x : Px) (k : Int) (nm tx : ByteArray) (a d n2 : Int) : Px := { x with qu := { x.qu with num := x.qu.num + 1, wts := true, ok := k, onm := nm, otx := tx, on := a, om := d, left := n2 } }
/-- The state behind a question that began. -/
def Px.asked (x : Px) (k : Int) (nm tx : ByteArray) (a d n2 who : Int) : Px := { x.askd k nm tx a d n2 with who := who, least := x.seen }
set_option maxHeartbeats 1600000 in
set_option maxRecDepth 1000000 in
/-- A question that may be, where none waits. -/
theorem ask_ok {P : Nat} {x : Px} {b m n1 n2 : Int} {cs : List Comp} {w w0 : World} (h : All (pxL P x b m n1 n2 ++ cs) w) (hT : Tab w0) (hin : inC w0 ∈ cs) (k : Int) (nm tx : ByteArray) (a d : Int) (hc : chkA k nm.size tx.size a d = 0) (hk : 6 ≤ k ∧ k ≤ 8) (who : Int) (hw0 : 0 ≤ who) (hw1 : who < x.n) (hw : x.qu.wts = false) (hn : 0 ≤ x.qu.num) (hn2 : x.qu.num < 1099511627776) (h1 : 1 ≤ n2) (h2 : n2 ≤ m) (h3 : m ≤ 1024) :
    Calls Tryz.prog 193 #[.pointer (some ⟨P, 0, none⟩), .int .i64 who, opV k nm tx a d] w fun e w' => ∃ G, e = .returned (.tuple #[.slice (some ⟨G, 0, none⟩) 1 1, .int .i64 0]) ∧ All (blkC G (asM x.id who x.seen (x.asked k nm tx a d n2 who).qu).cells 51 :: (pxL P (x.asked k nm tx a d n2 who) b m n1 (min (2 * n2) m) ++ cs)) w' := by
  obtain ⟨H, hH⟩ : ∃ H, Hid (H = w.heap.size) := ⟨_, hid rfl⟩
  have A1 := hid (h.addBlk [.int .i64 k, .string nm, .string tx, .int .i64 a, .int .i64 d] 42)
  rw [← hH.out] at A1
  have A1 := hid (A1.out.perm (List.perm_middle (l₁ := pxL P x b m n1 n2)).symm)
  have C : Hid (Calls Tryz.prog 169 #[opV k nm tx a d] (w.alloc (.cells #[.int .i64 k, .string nm, .string tx, .int .i64 a, .int .i64 d] 42)) fun e w' => e = .returned (.int .i64 0) ∧ Below (w.alloc (.cells #[.int .i64 k, .string nm, .string tx, .int .i64 a, .int .i64 d] 42)).heap.size (w.alloc (.cells #[.int .i64 k, .string nm, .string tx, .int .i64 a, .int .i64 d] 42)) w') := hid (by
    have := check_any (hT.below (A1.out.into (List.mem_append_right _ (List.mem_cons_of_mem _ hin)))) k nm tx a d
    rw [hc] at this
    exact this)
  have C31 : Hid (∀ W : World, Calls Tryz.prog 170 #[.int .i64 k] W fun e w' => e = .returned (.bool true) ∧ w' = W) := hid (fun W => by have := query_any (w := W) k; rw [decide_eq_true hk] at this; exact this)
  have HC : Hid (∀ W, All (pxL P x b m n1 n2 ++ (blkC H [.int .i64 k, .string nm, .string tx, .int .i64 a, .int .i64 d] 42 :: cs)) W → Calls Tryz.prog 212 #[.pointer (some ⟨P, 13, none⟩), opV k nm tx a d] W fun e w' => e = .returned (.int .i64 0) ∧ All (pxL P (x.askd k nm tx a d n2) b m n1 (min (2 * n2) m) ++ (blkC H [.int .i64 k, .string nm, .string tx, .int .i64 a, .int .i64 d] 42 :: cs)) w') := hid (fun W hW => begQ_ok hW hw hn hn2 h1 h2 h3 k nm tx a d)
  have C32 : Hid (∀ W, All (pxL P (x.asked k nm tx a d n2 who) b m n1 (min (2 * n2) m) ++ (blkC H [.int .i64 k, .string nm, .string tx, .int .i64 a, .int .i64 d] 42 :: cs)) W → Calls Tryz.prog 79 #[.pointer (some ⟨P, 13, none⟩), .int .i64 x.id, .int .i64 who] W fun e w' => e = .returned (.agg (asM x.id who x.seen (x.asked k nm tx a d n2 who).qu).cells.toArray) ∧ Below W.heap.size W w') := hid (fun W hW => msgQ hW x.id who)
  obtain ⟨ie, z, bs⟩ := bs41 (asM x.id who x.seen (x.asked k nm tx a d n2 who).qu)
  have BS := hid bs
  obtain ⟨MM, hMM⟩ : ∃ MM, Hid (MM = (asM x.id who x.seen (x.asked k nm tx a d n2 who).qu).cells) := ⟨_, hid rfl⟩
  rw [← hMM.out] at BS C32 ⊢
  have e1 : decide (who < 0) = false := by simpa using hw0
  have e2 : decide (x.n ≤ who) = false := by simpa using hw1
  clear h hT hin hc hk hw hn hn2 h1 h2 h3 bs hw0 hw1
  go_enter Tryz.func193, Tryz.ntmps193
  go_wp2_with fail
  refine C.out.mono ?_
  rintro e w1 ⟨rfl, BB⟩
  have A2 : Hid (All (pxL P x b m n1 n2 ++ (blkC H [.int .i64 k, .string nm, .string tx, .int .i64 a, .int .i64 d] 42 :: cs)) w1) := hid (A1.out.later BB)
  simp only [← hH.out]
  clear BB C A1
  have SF : Hid (∀ W y p q, All (pxL P y b m p q ++ (blkC H [.int .i64 k, .string nm, .string tx, .int .i64 a, .int .i64 d] 42 :: cs)) W → W.cell? ⟨H, 0, none⟩ = some (.int .i64 k) ∧ W.cell? ⟨H, 1, none⟩ = some (.string nm) ∧ W.cell? ⟨H, 2, none⟩ = some (.string tx) ∧ W.cell? ⟨H, 3, none⟩ = some (.int .i64 a) ∧ W.cell? ⟨H, 4, none⟩ = some (.int .i64 d)) := hid (fun W y p q hW => opCells (hW.blk (by simp)))
  have k0 : w1.cell? ⟨H, 0, none⟩ = some (.int .i64 k) := (SF.out _ _ _ _ A2.out).1
  have c0 : w1.cell? ⟨P, 0, none⟩ = some (.int .i64 x.n) := by rw [cell_at A2.out.px]; rfl
  go_upto_region 8 with (go_at_call 170; refine (C31.out _).mono ?_; rintro e w' ⟨rfl, rfl⟩)
  have A3 := hid A2.out.drew
  have p0 := hid (SF.out _ _ _ _ A3.out)
  clear k0 c0
  go_region_held3 (fun W => W.cell? ⟨H, 0, none⟩ = some (.int .i64 k) ∧ W.cell? ⟨H, 1, none⟩ = some (.string nm) ∧ W.cell? ⟨H, 2, none⟩ = some (.string tx) ∧ W.cell? ⟨H, 3, none⟩ = some (.int .i64 a) ∧ W.cell? ⟨H, 4, none⟩ = some (.int .i64 d)) (first | with_reducible exact p0.out | with_reducible exact p1.out)
    (first
      | (go_at_call 212; refine (HC.out _ A3.out).mono ?_; rintro e w2 ⟨rfl, hw2⟩; have A4 := hid hw2; have p1 := hid (SF.out _ _ _ _ A4.out); clear hw2))
  clear p0 p1 A3 A2 SF HC
  have c3 : w2.cell? ⟨P, 3, none⟩ = some (.int .i64 x.seen) := by rw [cell_at A4.out.px]; rfl
  have c22 : w2.cell? ⟨P, 22, none⟩ = some (.int .i64 x.who) := by rw [cell_at A4.out.px]; rfl
  have c23 : w2.cell? ⟨P, 23, none⟩ = some (.int .i64 x.least) := by rw [cell_at A4.out.px]; rfl
  have f22 := free_at A4.out.px 22
  have f23 := free_at A4.out.px 23
  have A5 : Hid (All (pxL P (x.asked k nm tx a d n2 who) b m n1 (min (2 * n2) m) ++ (blkC H [.int .i64 k, .string nm, .string tx, .int .i64 a, .int .i64 d] 42 :: cs)) ((w2.setCell ⟨P, 22, none⟩ (.int .i64 who)).setCell ⟨P, 23, none⟩ (.int .i64 x.seen))) := hid ((A4.out.setBlk 22 (.int .i64 who)).setBlk 23 (.int .i64 x.seen))
  have SG : Hid (∀ W, All (pxL P (x.asked k nm tx a d n2 who) b m n1 (min (2 * n2) m) ++ (blkC H [.int .i64 k, .string nm, .string tx, .int .i64 a, .int .i64 d] 42 :: cs)) W → (fun W => W.cell? ⟨P, 1, none⟩ = some (.int .i64 x.id)) W) := hid (fun W hW => by show W.cell? _ = _; rw [cell_at hW.px]; rfl)
  go_upto_region 12 with fail
  generalize (w2.setCell ⟨P, 22, none⟩ (.int .i64 who)).setCell ⟨P, 23, none⟩ (.int .i64 x.seen) = w3 at A5 ⊢
  clear c3 c22 c23 f22 f23 A4
  have A6 := hid A5.out.drew
  have p0 := hid (SG.out _ A6.out)
  refine wp_region_held_drew (S := (fun W => W.cell? ⟨P, 1, none⟩ = some (.int .i64 x.id))) (by kernel_rfl) p0.out (fun hHeld => ?_)
  refine wpAnyH_take (i := 0) (oi := { dst := some 54, op := Go.Op.move (Go.Operand.tmp 0), type := 70, pos := "proxy.go:58", after := #[], guard := none }) (v := ?_) rfl (by kernel_rfl) (by kernel_rfl) (by kernel_rfl) (fun _ _ _ h => h) (Or.inl ⟨by rfl, ?_⟩) hHeld ?_
  rotate_left
  · intro W hSw
    (try dsimp only at hSw)
    go_simp
    (try with_reducible rfl)
  (try simp only [Act.put, List.setIfInBounds_toArray, List.set_cons_zero, List.set_cons_succ])
  refine wpAnyH_take (i := 1) (oi := { dst := some 55, op := Go.Op.nilCheck (Go.Operand.tmp 54), type := 0, pos := "proxy.go:58", after := #[{ on := 0, ground := Go.Ground.data }], guard := none }) (v := ?_) rfl (by kernel_rfl) (by kernel_rfl) (by kernel_rfl) (fun _ _ _ h => h) (Or.inl ⟨by rfl, ?_⟩) hHeld ?_
  rotate_left
  · intro W hSw
    (try dsimp only at hSw)
    go_simp
    (try with_reducible rfl)
  (try simp only [Act.put, List.setIfInBounds_toArray, List.set_cons_zero, List.set_cons_succ])
  refine wpAnyH_take (i := 2) (oi := { dst := some 56, op := Go.Op.fieldAddr 111 (Go.Operand.tmp 55) 5, type := 0, pos := "proxy.go:58", after := #[{ on := 1, ground := Go.Ground.data }], guard := none }) (v := ?_) rfl (by kernel_rfl) (by kernel_rfl) (by kernel_rfl) (fun _ _ _ h => h) (Or.inl ⟨by rfl, ?_⟩) hHeld ?_
  rotate_left
  · intro W hSw
    (try dsimp only at hSw)
    go_simp
    (try with_reducible rfl)
  (try simp only [Act.put, List.setIfInBounds_toArray, List.set_cons_zero, List.set_cons_succ])
  refine wpAnyH_take (i := 3) (oi := { dst := some 57, op := Go.Op.move (Go.Operand.tmp 0), type := 70, pos := "proxy.go:58", after := #[], guard := none }) (v := ?_) rfl (by kernel_rfl) (by kernel_rfl) (by kernel_rfl) (fun _ _ _ h => h) (Or.inl ⟨by rfl, ?_⟩) hHeld ?_
  rotate_left
  · intro W hSw
    (try dsimp only at hSw)
    go_simp
    (try with_reducible rfl)
  (try simp only [Act.put, List.setIfInBounds_toArray, List.set_cons_zero, List.set_cons_succ])
  refine wpAnyH_take (i := 4) (oi := { dst := some 58, op := Go.Op.nilCheck (Go.Operand.tmp 57), type := 0, pos := "proxy.go:58", after := #[{ on := 3, ground := Go.Ground.data }], guard := none }) (v := ?_) rfl (by kernel_rfl) (by kernel_rfl) (by kernel_rfl) (fun _ _ _ h => h) (Or.inl ⟨by rfl, ?_⟩) hHeld ?_
  rotate_left
  · intro W hSw
    (try dsimp only at hSw)
    go_simp
    (try with_reducible rfl)
  (try simp only [Act.put, List.setIfInBounds_toArray, List.set_cons_zero, List.set_cons_succ])
  refine wpAnyH_take (i := 5) (oi := { dst := some 59, op := Go.Op.fieldAddr 111 (Go.Operand.tmp 58) 1, type := 0, pos := "proxy.go:58", after := #[{ on := 4, ground := Go.Ground.data }], guard := none }) (v := ?_) rfl (by kernel_rfl) (by kernel_rfl) (by kernel_rfl) (fun _ _ _ h => h) (Or.inl ⟨by rfl, ?_⟩) hHeld ?_
  rotate_left
  · intro W hSw
    (try dsimp only at hSw)
    go_simp
    (try with_reducible rfl)
  (try simp only [Act.put, List.setIfInBounds_toArray, List.set_cons_zero, List.set_cons_succ])
  refine wpAnyH_take (i := 6) (oi := { dst := some 60, op := Go.Op.load 3 (Go.Operand.tmp 59), type := 3, pos := "proxy.go:58", after := #[{ on := 5, ground := Go.Ground.data }], guard := none }) (v := ?_) rfl (by kernel_rfl) (by kernel_rfl) (by kernel_rfl) (fun _ _ _ h => h) (Or.inl ⟨by rfl, ?_⟩) hHeld ?_
  rotate_left
  · intro W hSw
    (try dsimp only at hSw)
    go_simp
    (try with_reducible rfl)
  (try simp only [Act.put, List.setIfInBounds_toArray, List.set_cons_zero, List.set_cons_succ])
  refine wpAnyH_take (i := 7) (oi := { dst := some 61, op := Go.Op.move (Go.Operand.tmp 1), type := 3, pos := "proxy.go:58", after := #[], guard := none }) (v := ?_) rfl (by kernel_rfl) (by kernel_rfl) (by kernel_rfl) (fun _ _ _ h => h) (Or.inl ⟨by rfl, ?_⟩) hHeld ?_
  rotate_left
  · intro W hSw
    (try dsimp only at hSw)
    go_simp
    (try with_reducible rfl)
  (try simp only [Act.put, List.setIfInBounds_toArray, List.set_cons_zero, List.set_cons_succ])
  refine wpAnyH_ready (rs := [8]) (by kernel_rfl) (by simp) ?_
  refine AllReadyH.cons (o := { dst := some 62, op := Go.Op.call { callee := Go.Callee.value (Go.Operand.func 79), args := #[Go.Operand.tmp 56, Go.Operand.tmp 60, Go.Operand.tmp 61], argTypes := #[109, 3, 3] }, type := 51, pos := "proxy.go:58", after := #[{ on := 2, ground := Go.Ground.data }, { on := 6, ground := Go.Ground.data }, { on := 7, ground := Go.Ground.data }], guard := none }) rfl (fun K hK => ?_) AllReadyH.nil
  go_simp
  refine (C32.out _ A6.out).mono ?_; rintro e w5 ⟨rfl, hw5⟩; have A7 := hid (A6.out.later hw5); have p1 := hid (SG.out _ A7.out); clear hw5
  refine hK.out _ _ p1.out (fun hHeld => ?_)
  clear hK K
  (try simp only [Act.put, List.setIfInBounds_toArray, List.set_cons_zero, List.set_cons_succ])
  refine wpAnyH_ready (rs := [9]) (by kernel_rfl) (by simp) ?_
  refine AllReadyH.cons (o := { dst := some 63, op := Go.Op.buildSlice 59 1 #[(0, Go.Operand.tmp 62)], type := 59, pos := "proxy.go:58", after := #[{ on := 8, ground := Go.Ground.data }], guard := none }) rfl (fun K hK => ?_) AllReadyH.nil
  rw [if_pos (by rfl)]
  refine wp_buildSlice 59 51 1 _ rfl MM.toArray ie z und49 BS.out.i BS.out.o BS.out.s BS.out.p (fill_of BS.out.f (by kernel_rfl)) ?_; have A8 := hid (A7.out.addBlk MM 51); have p2 := hid (SG.out _ A8.out.tail)
  refine hK.out _ _ p2.out (fun hHeld => ?_)
  clear hK K
  (try simp only [Act.put, List.setIfInBounds_toArray, List.set_cons_zero, List.set_cons_succ])
  refine wpAnyH_take (i := 10) (oi := { dst := some 6, op := Go.Op.assign (Go.Operand.tmp 63), type := 59, pos := "proxy.go:58", after := #[{ on := 9, ground := Go.Ground.data }, { on := 8, ground := Go.Ground.chain }, { on := 0, ground := Go.Ground.phase }, { on := 1, ground := Go.Ground.phase }, { on := 2, ground := Go.Ground.phase }, { on := 3, ground := Go.Ground.phase }, { on := 4, ground := Go.Ground.phase }, { on := 5, ground := Go.Ground.phase }, { on := 6, ground := Go.Ground.phase }, { on := 7, ground := Go.Ground.phase }, { on := 8, ground := Go.Ground.phase }, { on := 9, ground := Go.Ground.phase }], guard := none }) (v := ?_) rfl (by kernel_rfl) (by kernel_rfl) (by kernel_rfl) (fun _ _ _ h => h) (Or.inl ⟨by rfl, ?_⟩) hHeld ?_
  rotate_left
  · intro W hSw
    (try dsimp only at hSw)
    go_simp
    (try with_reducible rfl)
  (try simp only [Act.put, List.setIfInBounds_toArray, List.set_cons_zero, List.set_cons_succ])
  refine wpAnyH_take (i := 11) (oi := { dst := some 7, op := Go.Op.assign (Go.Operand.const (Go.Value.int Go.IntKind.i64 0)), type := 35, pos := "proxy.go:58", after := #[{ on := 10, ground := Go.Ground.chain }, { on := 0, ground := Go.Ground.phase }, { on := 1, ground := Go.Ground.phase }, { on := 2, ground := Go.Ground.phase }, { on := 3, ground := Go.Ground.phase }, { on := 4, ground := Go.Ground.phase }, { on := 5, ground := Go.Ground.phase }, { on := 6, ground := Go.Ground.phase }, { on := 7, ground := Go.Ground.phase }, { on := 8, ground := Go.Ground.phase }, { on := 9, ground := Go.Ground.phase }, { on := 10, ground := Go.Ground.phase }], guard := none }) (v := ?_) rfl (by kernel_rfl) (by kernel_rfl) (by kernel_rfl) (fun _ _ _ h => h) (Or.inl ⟨by rfl, ?_⟩) hHeld ?_
  rotate_left
  · intro W hSw
    (try dsimp only at hSw)
    go_simp
    (try with_reducible rfl)
  (try simp only [Act.put, List.setIfInBounds_toArray, List.set_cons_zero, List.set_cons_succ])
  refine wpAnyH_done (by kernel_rfl) ?_ _
  clear hHeld
  clear p0 p1 p2 SG C32
  obtain ⟨G, hG⟩ : ∃ G, Hid (G = w5.heap.size) := ⟨_, hid rfl⟩
  rw [← hG.out] at A8
  simp only [← hG.out]
  generalize w5.alloc (.cells MM.toArray 51) = w6 at A8 ⊢
  go_wp2
  go_ret2
  exact ⟨G, rfl, (A8.out.perm (List.Perm.cons _ (List.perm_middle (l₁ := pxL P (x.asked k nm tx a d n2 who) b m n1 (min (2 * n2) m))))).swap.tail⟩
end Go.Proofs.YtdhkdniddjnigaaGreatDoor

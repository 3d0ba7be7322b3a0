import Derived.Test.YtdhkdniddjnigaaGreatDoorJ16
import Derived.Test.YtdhkdniddjnigaaGreatDoorJ8
import Derived.Test.YtdhkdniddjnigaaGreatDoorJ5
import Derived.Test.YtdhkdniddjnigaaGreatDoorJ6
import Derived.Shelf.Bytes.SlCut
import Derived.Test.YtdhkdniddjnigaaGreatDoorProg
import Derived.Test.YtdhkdniddjnigaaGreatDoorJ1
import Derived.Lib.IndexMore
import Derived.Lib.IndexLaws
import Derived.Test.YtdhkdniddjnigaaGreatDoorJ13
import Derived.Lib.AppendStr
import Derived.Test.YtdhkdniddjnigaaGreatDoorJ3
namespace Go.Proofs.YtdhkdniddjnigaaGreatDoor
open Go.RowKit
set_option linter.unusedVariables false

/-- A config that may be, out of any. -/
structure Cg where
  a0 : Int
  a1 : Int
  a2 : Int
  a3 : Int
  a4 : Int
  a5 : Int
  a6 : Int
  a7 : Int
  a8 : Int
  a9 : Int
def Cg.cells (c : Cg) : List Value := [.int .i64 c.a0, .int .i64 c.a1, .int .i64 c.a2, .int .i64 c.a3, .int .i64 c.a4, .int .i64 c.a5, .int .i64 c.a6, .int .i64 c.a7, .int .i64 c.a8, .int .i64 c.a9]
def Cg.ok (c : Cg) : Bool := cfgOK c.a0 c.a1 c.a2 c.a3 c.a4 c.a5 c.a6 c.a7 c.a8 c.a9
end Go.Proofs.YtdhkdniddjnigaaGreatDoor

namespace Go.Proofs.YtdhkdniddjnigaaGreatDoor
open Go.RowKit
set_option linter.unusedVariables false

def Px.askd (x : Px) (k : Int) (nm tx : ByteArray) (a d n2 : Int) : Px := { x with qu := { x.qu with num := x.qu.num + 1, wts := true, ok := k, onm := nm, otx := tx, on := a, om := d, left := n2 } }
/-- The state behind a question that began. -/
def Px.asked (x : Px) (k : Int) (nm tx : ByteArray) (a d n2 who : Int) : Px := { x.askd k nm tx a d n2 with who := who, least := x.seen }
set_option maxHeartbeats 1600000 in
set_option maxRecDepth 1000000 in
/-- A question that may be, where none waits. -/
theorem ask_ok {P : Nat} {x : Px} {b m n1 n2 : Int} {cs : List Comp} {w w0 : World} (h : All (pxL P x b m n1 n2 ++ cs) w) (hT : Tab w0) (hin : inC w0 ∈ cs) (k : Int) (nm tx : ByteArray) (a d : Int) (hc : chkA k nm.size tx.size a d = 0) (hk : 6 ≤ k ∧ k ≤ 8) (who : Int) (hw0 : 0 ≤ who) (hw1 : who < x.n) (hw : x.qu.wts = false) (hn : 0 ≤ x.qu.num) (hn2 : x.qu.num < 1099511627776) (h1 : 1 ≤ n2) (h2 : n2 ≤ m) (h3 : m ≤ 1024) :
    Calls Tryz.prog 193 #[.pointer (some ⟨P, 0, none⟩), .int .i64 who, opV k nm tx a d] w fun e w' => ∃ G, e = .returned (.tuple #[.slice (some ⟨G, 0, none⟩) 1 1, .int .i64 0]) ∧ All (blkC G (asM x.id who x.seen (x.asked k nm tx a d n2 who).qu).cells 51 :: (pxL P (x.asked k nm tx a d n2 who) b m n1 (min (2 * n2) m) ++ cs)) w' := by
  obtain ⟨H, hH⟩ : ∃ H, Hid (H = w.heap.size) := ⟨_, hid rfl⟩
  have A1 := hid (h.addBlk [.int .i64 k, .string nm, .string tx, .int .i64 a, .int .i64 d] 42)
  rw [← hH.out] at A1
  have A1 := hid (A1.out.perm (List.perm_middle (l₁ := pxL P x b m n1 n2)).symm)
  have C : Hid (Calls Tryz.prog 169 #[opV k nm tx a d] (w.alloc (.cells #[.int .i64 k, .string nm, .string tx, .int .i64 a, .int .i64 d] 42)) fun e w' => e = .returned (.int .i64 0) ∧ Below (w.alloc (.cells #[.int .i64 k, .string nm, .string tx, .int .i64 a, .int .i64 d] 42)).heap.size (w.alloc (.cells #[.int .i64 k, .string nm, .string tx, .int .i64 a, .int .i64 d] 42)) w') := hid (by
    have := check_any (hT.below (A1.out.into (List.mem_append_right _ (List.mem_cons_of_mem _ hin)))) k nm tx a d
    rw [hc] at this
    exact this)
  have C31 : Hid (∀ W : World, Calls Tryz.prog 170 #[.int .i64 k] W fun e w' => e = .returned (.bool true) ∧ w' = W) := hid (fun W => by have := query_any (w := W) k; rw [decide_eq_true hk] at this; exact this)
  have HC : Hid (∀ W, All (pxL P x b m n1 n2 ++ (blkC H [.int .i64 k, .string nm, .string tx, .int .i64 a, .int .i64 d] 42 :: cs)) W → Calls Tryz.prog 212 #[.pointer (some ⟨P, 13, none⟩), opV k nm tx a d] W fun e w' => e = .returned (.int .i64 0) ∧ All (pxL P (x.askd k nm tx a d n2) b m n1 (min (2 * n2) m) ++ (blkC H [.int .i64 k, .string nm, .string tx, .int .i64 a, .int .i64 d] 42 :: cs)) w') := hid (fun W hW => begQ_ok hW hw hn hn2 h1 h2 h3 k nm tx a d)
  have C32 : Hid (∀ W, All (pxL P (x.asked k nm tx a d n2 who) b m n1 (min (2 * n2) m) ++ (blkC H [.int .i64 k, .string nm, .string tx, .int .i64 a, .int .i64 d] 42 :: cs)) W → Calls Tryz.prog 79 #[.pointer (some ⟨P, 13, none⟩), .int .i64 x.id, .int .i64 who] W fun e w' => e = .returned (.agg (asM x.id who x.seen (x.asked k nm tx a d n2 who).qu).cells.toArray) ∧ Below W.heap.size W w') := hid (fun W hW => msgQ hW x.id who)
  obtain ⟨ie, z, bs⟩ := bs41 (asM x.id who x.seen (x.asked k nm tx a d n2 who).qu)
  have BS := hid bs
  obtain ⟨MM, hMM⟩ : ∃ MM, Hid (MM = (asM x.id who x.seen (x.asked k nm tx a d n2 who).qu).cells) := ⟨_, hid rfl⟩
  rw [← hMM.out] at BS C32 ⊢
  have e1 : decide (who < 0) = false := by simpa using hw0
  have e2 : decide (x.n ≤ who) = false := by simpa using hw1
  clear h hT hin hc hk hw hn hn2 h1 h2 h3 bs hw0 hw1
  go_enter Tryz.func193, Tryz.ntmps193
  go_wp2_with fail
  refine C.out.mono ?_
  rintro e w1 ⟨rfl, BB⟩
  have A2 : Hid (All (pxL P x b m n1 n2 ++ (blkC H [.int .i64 k, .string nm, .string tx, .int .i64 a, .int .i64 d] 42 :: cs)) w1) := hid (A1.out.later BB)
  simp only [← hH.out]
  clear BB C A1
  have SF : Hid (∀ W y p q, All (pxL P y b m p q ++ (blkC H [.int .i64 k, .string nm, .string tx, .int .i64 a, .int .i64 d] 42 :: cs)) W → W.cell? ⟨H, 0, none⟩ = some (.int .i64 k) ∧ W.cell? ⟨H, 1, none⟩ = some (.string nm) ∧ W.cell? ⟨H, 2, none⟩ = some (.string tx) ∧ W.cell? ⟨H, 3, none⟩ = some (.int .i64 a) ∧ W.cell? ⟨H, 4, none⟩ = some (.int .i64 d)) := hid (fun W y p q hW => opCells (hW.blk (by simp)))
  have k0 : w1.cell? ⟨H, 0, none⟩ = some (.int .i64 k) := (SF.out _ _ _ _ A2.out).1
  have c0 : w1.cell? ⟨P, 0, none⟩ = some (.int .i64 x.n) := by rw [cell_at A2.out.px]; rfl
  go_upto_region 8 with (go_at_call 170; refine (C31.out _).mono ?_; rintro e w' ⟨rfl, rfl⟩)
  have A3 := hid A2.out.drew
  have p0 := hid (SF.out _ _ _ _ A3.out)
  clear k0 c0
  go_region_held3 (fun W => W.cell? ⟨H, 0, none⟩ = some (.int .i64 k) ∧ W.cell? ⟨H, 1, none⟩ = some (.string nm) ∧ W.cell? ⟨H, 2, none⟩ = some (.string tx) ∧ W.cell? ⟨H, 3, none⟩ = some (.int .i64 a) ∧ W.cell? ⟨H, 4, none⟩ = some (.int .i64 d)) (first | with_reducible exact p0.out | with_reducible exact p1.out)
    (first
      | (go_at_call 212; refine (HC.out _ A3.out).mono ?_; rintro e w2 ⟨rfl, hw2⟩; have A4 := hid hw2; have p1 := hid (SF.out _ _ _ _ A4.out); clear hw2))
  clear p0 p1 A3 A2 SF HC
  have c3 : w2.cell? ⟨P, 3, none⟩ = some (.int .i64 x.seen) := by rw [cell_at A4.out.px]; rfl
  have c22 : w2.cell? ⟨P, 22, none⟩ = some (.int .i64 x.who) := by rw [cell_at A4.out.px]; rfl
  have c23 : w2.cell? ⟨P, 23, none⟩ = some (.int .i64 x.least) := by rw [cell_at A4.out.px]; rfl
  have f22 := free_at A4.out.px 22
  have f23 := free_at A4.out.px 23
  have A5 : Hid (All (pxL P (x.asked k nm tx a d n2 who) b m n1 (min (2 * n2) m) ++ (blkC H [.int .i64 k, .string nm, .string tx, .int .i64 a, .int .i64 d] 42 :: cs)) ((w2.setCell ⟨P, 22, none⟩ (.int .i64 who)).setCell ⟨P, 23, none⟩ (.int .i64 x.seen))) := hid ((A4.out.setBlk 22 (.int .i64 who)).setBlk 23 (.int .i64 x.seen))
  have SG : Hid (∀ W, All (pxL P (x.asked k nm tx a d n2 who) b m n1 (min (2 * n2) m) ++ (blkC H [.int .i64 k, .string nm, .string tx, .int .i64 a, .int .i64 d] 42 :: cs)) W → (fun W => W.cell? ⟨P, 1, none⟩ = some (.int .i64 x.id)) W) := hid (fun W hW => by show W.cell? _ = _; rw [cell_at hW.px]; rfl)
  go_upto_region 12 with fail
  generalize (w2.setCell ⟨P, 22, none⟩ (.int .i64 who)).setCell ⟨P, 23, none⟩ (.int .i64 x.seen) = w3 at A5 ⊢
  clear c3 c22 c23 f22 f23 A4
  have A6 := hid A5.out.drew
  have p0 := hid (SG.out _ A6.out)
  refine wp_region_held_drew (S := (fun W => W.cell? ⟨P, 1, none⟩ = some (.int .i64 x.id))) (by kernel_rfl) p0.out (fun hHeld => ?_)
  refine wpAnyH_take (i := 0) (oi := { dst := some 54, op := Go.Op.move (Go.Operand.tmp 0), type := 70, pos := "proxy.go:58", after := #[], guard := none }) (v := ?_) rfl (by kernel_rfl) (by kernel_rfl) (by kernel_rfl) (fun _ _ _ h => h) (Or.inl ⟨by rfl, ?_⟩) hHeld ?_
  rotate_left
  · intro W hSw
    (try dsimp only at hSw)
    go_simp
    (try with_reducible rfl)
  (try simp only [Act.put, List.setIfInBounds_toArray, List.set_cons_zero, List.set_cons_succ])
  refine wpAnyH_take (i := 1) (oi := { dst := some 55, op := Go.Op.nilCheck (Go.Operand.tmp 54), type := 0, pos := "proxy.go:58", after := #[{ on := 0, ground := Go.Ground.data }], guard := none }) (v := ?_) rfl (by kernel_rfl) (by kernel_rfl) (by kernel_rfl) (fun _ _ _ h => h) (Or.inl ⟨by rfl, ?_⟩) hHeld ?_
  rotate_left
  · intro W hSw
    (try dsimp only at hSw)
    go_simp
    (try with_reducible rfl)
  (try simp only [Act.put, List.setIfInBounds_toArray, List.set_cons_zero, List.set_cons_succ])
  refine wpAnyH_take (i := 2) (oi := { dst := some 56, op := Go.Op.fieldAddr 111 (Go.Operand.tmp 55) 5, type := 0, pos := "proxy.go:58", after := #[{ on := 1, ground := Go.Ground.data }], guard := none }) (v := ?_) rfl (by kernel_rfl) (by kernel_rfl) (by kernel_rfl) (fun _ _ _ h => h) (Or.inl ⟨by rfl, ?_⟩) hHeld ?_
  rotate_left
  · intro W hSw
    (try dsimp only at hSw)
    go_simp
    (try with_reducible rfl)
  (try simp only [Act.put, List.setIfInBounds_toArray, List.set_cons_zero, List.set_cons_succ])
  refine wpAnyH_take (i := 3) (oi := { dst := some 57, op := Go.Op.move (Go.Operand.tmp 0), type := 70, pos := "proxy.go:58", after := #[], guard := none }) (v := ?_) rfl (by kernel_rfl) (by kernel_rfl) (by kernel_rfl) (fun _ _ _ h => h) (Or.inl ⟨by rfl, ?_⟩) hHeld ?_
  rotate_left
  · intro W hSw
    (try dsimp only at hSw)
    go_simp
    (try with_reducible rfl)
  (try simp only [Act.put, List.setIfInBounds_toArray, List.set_cons_zero, List.set_cons_succ])
  refine wpAnyH_take (i := 4) (oi := { dst := some 58, op := Go.Op.nilCheck (Go.Operand.tmp 57), type := 0, pos := "proxy.go:58", after := #[{ on := 3, ground := Go.Ground.data }], guard := none }) (v := ?_) rfl (by kernel_rfl) (by kernel_rfl) (by kernel_rfl) (fun _ _ _ h => h) (Or.inl ⟨by rfl, ?_⟩) hHeld ?_
  rotate_left
  · intro W hSw
    (try dsimp only at hSw)
    go_simp
    (try with_reducible rfl)
  (try simp only [Act.put, List.setIfInBounds_toArray, List.set_cons_zero, List.set_cons_succ])
  refine wpAnyH_take (i := 5) (oi := { dst := some 59, op := Go.Op.fieldAddr 111 (Go.Operand.tmp 58) 1, type := 0, pos := "proxy.go:58", after := #[{ on := 4, ground := Go.Ground.data }], guard := none }) (v := ?_) rfl (by kernel_rfl) (by kernel_rfl) (by kernel_rfl) (fun _ _ _ h => h) (Or.inl ⟨by rfl, ?_⟩) hHeld ?_
  rotate_left
  · intro W hSw
    (try dsimp only at hSw)
    go_simp
    (try with_reducible rfl)
  (try simp only [Act.put, List.setIfInBounds_toArray, List.set_cons_zero, List.set_cons_succ])
  refine wpAnyH_take (i := 6) (oi := { dst := some 60, op := Go.Op.load 3 (Go.Operand.tmp 59), type := 3, pos := "proxy.go:58", after := #[{ on := 5, ground := Go.Ground.data }], guard := none }) (v := ?_) rfl (by kernel_rfl) (by kernel_rfl) (by kernel_rfl) (fun _ _ _ h => h) (Or.inl ⟨by rfl, ?_⟩) hHeld ?_
  rotate_left
  · intro W hSw
    (try dsimp only at hSw)
    go_simp
    (try with_reducible rfl)
  (try simp only [Act.put, List.setIfInBounds_toArray, List.set_cons_zero, List.set_cons_succ])
  refine wpAnyH_take (i := 7) (oi := { dst := some 61, op := Go.Op.move (Go.Operand.tmp 1), type := 3, pos := "proxy.go:58", after := #[], guard := none }) (v := ?_) rfl (by kernel_rfl) (by kernel_rfl) (by kernel_rfl) (fun _ _ _ h => h) (Or.inl ⟨by rfl, ?_⟩) hHeld ?_
  rotate_left
  · intro W hSw
    (try dsimp only at hSw)
    go_simp
    (try with_reducible rfl)
  (try simp only [Act.put, List.setIfInBounds_toArray, List.set_cons_zero, List.set_cons_succ])
  refine wpAnyH_ready (rs := [8]) (by kernel_rfl) (by simp) ?_
  refine AllReadyH.cons (o := { dst := some 62, op := Go.Op.call { callee := Go.Callee.value (Go.Operand.func 79), args := #[Go.Operand.tmp 56, Go.Operand.tmp 60, Go.Operand.tmp 61], argTypes := #[109, 3, 3] }, type := 51, pos := "proxy.go:58", after := #[{ on := 2, ground := Go.Ground.data }, { on := 6, ground := Go.Ground.data }, { on := 7, ground := Go.Ground.data }], guard := none }) rfl (fun K hK => ?_) AllReadyH.nil
  go_simp
  refine (C32.out _ A6.out).mono ?_; rintro e w5 ⟨rfl, hw5⟩; have A7 := hid (A6.out.later hw5); have p1 := hid (SG.out _ A7.out); clear hw5
  refine hK.out _ _ p1.out (fun hHeld => ?_)
  clear hK K
  (try simp only [Act.put, List.setIfInBounds_toArray, List.set_cons_zero, List.set_cons_succ])
  refine wpAnyH_ready (rs := [9]) (by kernel_rfl) (by simp) ?_
  refine AllReadyH.cons (o := { dst := some 63, op := Go.Op.buildSlice 59 1 #[(0, Go.Operand.tmp 62)], type := 59, pos := "proxy.go:58", after := #[{ on := 8, ground := Go.Ground.data }], guard := none }) rfl (fun K hK => ?_) AllReadyH.nil
  rw [if_pos (by rfl)]
  refine wp_buildSlice 59 51 1 _ rfl MM.toArray ie z und49 BS.out.i BS.out.o BS.out.s BS.out.p (fill_of BS.out.f (by kernel_rfl)) ?_; have A8 := hid (A7.out.addBlk MM 51); have p2 := hid (SG.out _ A8.out.tail)
  refine hK.out _ _ p2.out (fun hHeld => ?_)
  clear hK K
  (try simp only [Act.put, List.setIfInBounds_toArray, List.set_cons_zero, List.set_cons_succ])
  refine wpAnyH_take (i := 10) (oi := { dst := some 6, op := Go.Op.assign (Go.Operand.tmp 63), type := 59, pos := "proxy.go:58", after := #[{ on := 9, ground := Go.Ground.data }, { on := 8, ground := Go.Ground.chain }, { on := 0, ground := Go.Ground.phase }, { on := 1, ground := Go.Ground.phase }, { on := 2, ground := Go.Ground.phase }, { on := 3, ground := Go.Ground.phase }, { on := 4, ground := Go.Ground.phase }, { on := 5, ground := Go.Ground.phase }, { on := 6, ground := Go.Ground.phase }, { on := 7, ground := Go.Ground.phase }, { on := 8, ground := Go.Ground.phase }, { on := 9, ground := Go.Ground.phase }], guard := none }) (v := ?_) rfl (by kernel_rfl) (by kernel_rfl) (by kernel_rfl) (fun _ _ _ h => h) (Or.inl ⟨by rfl, ?_⟩) hHeld ?_
  rotate_left
  · intro W hSw
    (try dsimp only at hSw)
    go_simp
    (try with_reducible rfl)
  (try simp only [Act.put, List.setIfInBounds_toArray, List.set_cons_zero, List.set_cons_succ])
  refine wpAnyH_take (i := 11) (oi := { dst := some 7, op := Go.Op.assign (Go.Operand.const (Go.Value.int Go.IntKind.i64 0)), type := 35, pos := "proxy.go:58", after := #[{ on := 10, ground := Go.Ground.chain }, { on := 0, ground := Go.Ground.phase }, { on := 1, ground := Go.Ground.phase }, { on := 2, ground := Go.Ground.phase }, { on := 3, ground := Go.Ground.phase }, { on := 4, ground := Go.Ground.phase }, { on := 5, ground := Go.Ground.phase }, { on := 6, ground := Go.Ground.phase }, { on := 7, ground := Go.Ground.phase }, { on := 8, ground := Go.Ground.phase }, { on := 9, ground := Go.Ground.phase }, { on := 10, ground := Go.Ground.phase }], guard := none }) (v := ?_) rfl (by kernel_rfl) (by kernel_rfl) (by kernel_rfl) (fun _ _ _ h => h) (Or.inl ⟨by rfl, ?_⟩) hHeld ?_
  rotate_left
  · intro W hSw
    (try dsimp only at hSw)
    go_simp
    (try with_reducible rfl)
  (try simp only [Act.put, List.setIfInBounds_toArray, List.set_cons_zero, List.set_cons_succ])
  refine wpAnyH_done (by kernel_rfl) ?_ _
  clear hHeld
  clear p0 p1 p2 SG C32
  obtain ⟨G, hG⟩ : ∃ G, Hid (G = w5.heap.size) := ⟨_, hid rfl⟩
  rw [← hG.out] at A8
  simp only [← hG.out]
  generalize w5.alloc (.cells MM.toArray 51) = w6 at A8 ⊢
  go_wp2
  go_ret2
  exact ⟨G, rfl, (A8.out.perm (List.Perm.cons _ (List.perm_middle (l₁ := pxL P (x.asked k nm tx a d n2 who) b m n1 (min (2 * n2) m))))).swap.tail⟩
end Go.Proofs.YtdhkdniddjnigaaGreatDoor

namespace Go.Proofs.YtdhkdniddjnigaaGreatDoor
open Go.RowKit
set_option linter.unusedVariables false

set_option maxRecDepth 1000000 in
/-- Ask of an op that may not be. -/
theorem ask_bad {P : Nat} {x : Px} {b m n1 n2 : Int} {cs : List Comp} {w w0 : World} (h : All (pxL P x b m n1 n2 ++ cs) w) (hT : Tab w0) (hin : inC w0 ∈ cs) (k : Int) (nm tx : ByteArray) (a d : Int) (who : Int) (hc : chkA k nm.size tx.size a d ≠ 0) : Calls Tryz.prog 193 #[.pointer (some ⟨P, 0, none⟩), .int .i64 who, opV k nm tx a d] w fun e w' => e = .returned (.tuple #[.slice none 0 0, .int .i64 (chkA k nm.size tx.size a d)]) ∧ All (pxL P x b m n1 n2 ++ cs) w' := by
  have A1 := hid (h.alloc (.cells #[.int .i64 k, .string nm, .string tx, .int .i64 a, .int .i64 d] 42))
  have C := hid (check_any (hT.below (A1.out.into (List.mem_append_right _ hin))) k nm tx a d)
  generalize chkA k nm.size tx.size a d = E at hc C ⊢
  have e1 : (E != 0) = true := by simpa using hc
  clear h hT hin hc
  go_enter Tryz.func193, Tryz.ntmps193
  go_wp2_with fail
  refine C.out.mono ?_
  rintro e w1 ⟨rfl, BB⟩
  have A2 := hid (A1.out.later BB)
  clear BB C A1
  go_wp2
  go_ret2
  exact ⟨rfl, A2.out⟩
set_option maxHeartbeats 1600000 in
set_option maxRecDepth 1000000 in
/-- Ask of what is no query. -/
theorem ask_noq {P : Nat} {x : Px} {b m n1 n2 : Int} {cs : List Comp} {w w0 : World} (h : All (pxL P x b m n1 n2 ++ cs) w) (hT : Tab w0) (hin : inC w0 ∈ cs) (k : Int) (nm tx : ByteArray) (a d : Int) (who : Int) (hc : chkA k nm.size tx.size a d = 0) (hk : ¬ (6 ≤ k ∧ k ≤ 8)) : Calls Tryz.prog 193 #[.pointer (some ⟨P, 0, none⟩), .int .i64 who, opV k nm tx a d] w fun e w' => e = .returned (.tuple #[.slice none 0 0, .int .i64 56]) ∧ All (pxL P x b m n1 n2 ++ cs) w' := by
  obtain ⟨H, hH⟩ : ∃ H, Hid (H = w.heap.size) := ⟨_, hid rfl⟩
  have A1 := hid (h.addBlk [.int .i64 k, .string nm, .string tx, .int .i64 a, .int .i64 d] 42)
  rw [← hH.out] at A1
  have A1 := hid (A1.out.perm (List.perm_middle (l₁ := pxL P x b m n1 n2)).symm)
  have C : Hid (Calls Tryz.prog 169 #[opV k nm tx a d] (w.alloc (.cells #[.int .i64 k, .string nm, .string tx, .int .i64 a, .int .i64 d] 42)) fun e w' => e = .returned (.int .i64 0) ∧ Below (w.alloc (.cells #[.int .i64 k, .string nm, .string tx, .int .i64 a, .int .i64 d] 42)).heap.size (w.alloc (.cells #[.int .i64 k, .string nm, .string tx, .int .i64 a, .int .i64 d] 42)) w') := hid (by
    have := check_any (hT.below (A1.out.into (List.mem_append_right _ (List.mem_cons_of_mem _ hin)))) k nm tx a d
    rw [hc] at this
    exact this)
  have C31 : Hid (∀ W : World, Calls Tryz.prog 170 #[.int .i64 k] W fun e w' => e = .returned (.bool false) ∧ w' = W) := hid (fun W => by have := query_any (w := W) k; rw [decide_eq_false hk] at this; exact this)
  clear h hT hin hc hk
  go_enter Tryz.func193, Tryz.ntmps193
  go_wp2_with fail
  refine C.out.mono ?_
  rintro e w1 ⟨rfl, BB⟩
  have A2 : Hid (All (pxL P x b m n1 n2 ++ (blkC H [.int .i64 k, .string nm, .string tx, .int .i64 a, .int .i64 d] 42 :: cs)) w1) := hid (A1.out.later BB)
  simp only [← hH.out]
  clear BB C A1
  have SF : Hid (∀ W, All (pxL P x b m n1 n2 ++ (blkC H [.int .i64 k, .string nm, .string tx, .int .i64 a, .int .i64 d] 42 :: cs)) W → W.cell? ⟨H, 0, none⟩ = some (.int .i64 k) ∧ W.cell? ⟨H, 1, none⟩ = some (.string nm) ∧ W.cell? ⟨H, 2, none⟩ = some (.string tx) ∧ W.cell? ⟨H, 3, none⟩ = some (.int .i64 a) ∧ W.cell? ⟨H, 4, none⟩ = some (.int .i64 d)) := hid (fun W hW => opCells (hW.blk (by simp)))
  have k0 : w1.cell? ⟨H, 0, none⟩ = some (.int .i64 k) := (SF.out _ A2.out).1
  go_wp2_with (go_at_call 170; refine (C31.out _).mono ?_; rintro e w' ⟨rfl, rfl⟩)
  go_ret2
  exact ⟨rfl, (A2.out.perm (List.perm_middle (l₁ := pxL P x b m n1 n2))).tail⟩
set_option maxHeartbeats 1600000 in
set_option maxRecDepth 1000000 in
/-- Ask while a question waits. -/
theorem ask_no {P : Nat} {x : Px} {b m n1 n2 : Int} {cs : List Comp} {w w0 : World} (h : All (pxL P x b m n1 n2 ++ cs) w) (hT : Tab w0) (hin : inC w0 ∈ cs) (k : Int) (nm tx : ByteArray) (a d : Int) (who : Int) (hc : chkA k nm.size tx.size a d = 0) (hk : 6 ≤ k ∧ k ≤ 8) (hw0 : 0 ≤ who) (hw1 : who < x.n) {E : Int} (hE : E ≠ 0) (hC : ∀ W cs', All (pxL P x b m n1 n2 ++ cs') W → Calls Tryz.prog 212 #[.pointer (some ⟨P, 13, none⟩), opV k nm tx a d] W fun e w' => e = .returned (.int .i64 E) ∧ All (pxL P x b m n1 n2 ++ cs') w') : Calls Tryz.prog 193 #[.pointer (some ⟨P, 0, none⟩), .int .i64 who, opV k nm tx a d] w fun e w' => e = .returned (.tuple #[.slice none 0 0, .int .i64 E]) ∧ All (pxL P x b m n1 n2 ++ cs) w' := by
  obtain ⟨H, hH⟩ : ∃ H, Hid (H = w.heap.size) := ⟨_, hid rfl⟩
  have A1 := hid (h.addBlk [.int .i64 k, .string nm, .string tx, .int .i64 a, .int .i64 d] 42)
  rw [← hH.out] at A1
  have A1 := hid (A1.out.perm (List.perm_middle (l₁ := pxL P x b m n1 n2)).symm)
  have C : Hid (Calls Tryz.prog 169 #[opV k nm tx a d] (w.alloc (.cells #[.int .i64 k, .string nm, .string tx, .int .i64 a, .int .i64 d] 42)) fun e w' => e = .returned (.int .i64 0) ∧ Below (w.alloc (.cells #[.int .i64 k, .string nm, .string tx, .int .i64 a, .int .i64 d] 42)).heap.size (w.alloc (.cells #[.int .i64 k, .string nm, .string tx, .int .i64 a, .int .i64 d] 42)) w') := hid (by
    have := check_any (hT.below (A1.out.into (List.mem_append_right _ (List.mem_cons_of_mem _ hin)))) k nm tx a d
    rw [hc] at this
    exact this)
  have C31 : Hid (∀ W : World, Calls Tryz.prog 170 #[.int .i64 k] W fun e w' => e = .returned (.bool true) ∧ w' = W) := hid (fun W => by have := query_any (w := W) k; rw [decide_eq_true hk] at this; exact this)
  have HC := hid hC
  have e3 : (E != 0) = true := by simpa using hE
  have e1 : decide (who < 0) = false := by simpa using hw0
  have e2 : decide (x.n ≤ who) = false := by simpa using hw1
  clear h hT hin hc hk hC hE hw0 hw1
  go_enter Tryz.func193, Tryz.ntmps193
  go_wp2_with fail
  refine C.out.mono ?_
  rintro e w1 ⟨rfl, BB⟩
  have A2 : Hid (All (pxL P x b m n1 n2 ++ (blkC H [.int .i64 k, .string nm, .string tx, .int .i64 a, .int .i64 d] 42 :: cs)) w1) := hid (A1.out.later BB)
  simp only [← hH.out]
  clear BB C A1
  have SF : Hid (∀ W, All (pxL P x b m n1 n2 ++ (blkC H [.int .i64 k, .string nm, .string tx, .int .i64 a, .int .i64 d] 42 :: cs)) W → W.cell? ⟨H, 0, none⟩ = some (.int .i64 k) ∧ W.cell? ⟨H, 1, none⟩ = some (.string nm) ∧ W.cell? ⟨H, 2, none⟩ = some (.string tx) ∧ W.cell? ⟨H, 3, none⟩ = some (.int .i64 a) ∧ W.cell? ⟨H, 4, none⟩ = some (.int .i64 d)) := hid (fun W hW => opCells (hW.blk (by simp)))
  have k0 : w1.cell? ⟨H, 0, none⟩ = some (.int .i64 k) := (SF.out _ A2.out).1
  have c0 : w1.cell? ⟨P, 0, none⟩ = some (.int .i64 x.n) := by rw [cell_at A2.out.px]; rfl
  go_upto_region 8 with (go_at_call 170; refine (C31.out _).mono ?_; rintro e w' ⟨rfl, rfl⟩)
  have A3 := hid A2.out.drew
  have p0 := hid (SF.out _ A3.out)
  clear k0 c0
  go_region_held3 (fun W => W.cell? ⟨H, 0, none⟩ = some (.int .i64 k) ∧ W.cell? ⟨H, 1, none⟩ = some (.string nm) ∧ W.cell? ⟨H, 2, none⟩ = some (.string tx) ∧ W.cell? ⟨H, 3, none⟩ = some (.int .i64 a) ∧ W.cell? ⟨H, 4, none⟩ = some (.int .i64 d)) (first | with_reducible exact p0.out | with_reducible exact p1.out)
    (first
      | (go_at_call 212; refine (HC.out _ _ A3.out).mono ?_; rintro e w2 ⟨rfl, hw2⟩; have A4 := hid hw2; have p1 := hid (SF.out _ A4.out); clear hw2))
  clear p0 p1 A3 A2
  go_wp2
  go_ret2
  exact ⟨rfl, (A4.out.perm (List.perm_middle (l₁ := pxL P x b m n1 n2))).tail⟩
end Go.Proofs.YtdhkdniddjnigaaGreatDoor

namespace Go.Proofs.YtdhkdniddjnigaaGreatDoor
open Go.RowKit
set_option linter.unusedVariables false

/-- What a line asks for. -/
structure Wi where
  no : Int
  ask : Bool
  who : Int
  o : OpR
/-- What is known of a gate but for what it tells. -/
structure Gs where
  no : Int
  tx : List UInt8
  long : Bool
  uw : Int
  ws : List Wi
  x : Px
  n1 : Int
  n2 : Int
/-- What a call makes: how the gate stands, what is said, what is told. -/
structure Go where
  s : Gs
  ms : List Ms
  tl : List UInt8

def subB : List UInt8 := [115, 117, 98, 109, 105, 116]
def askB : List UInt8 := [97, 115, 107]
def refuB : List UInt8 := [114, 101, 102, 117, 115, 101, 100]
def doneB : List UInt8 := [100, 111, 110, 101]
def toldB : List UInt8 := [116, 111, 108, 100]

/-- A line that is told. -/
def lnB (no : Int) (l : Ws) : List UInt8 := joinW (Lib.itoa no :: l) ++ [10]
def refL (no e : Int) : List UInt8 := lnB no [refuB, Lib.itoa e]

inductive Rd where
  | err (e : Int)
  | none
  | wish (ask : Bool) (who : Int) (o : OpR)
/-- An op behind which nothing is left. -/
def opRd (l : Ws) : Int × OpR := if (readO l).e ≠ 0 then ((readO l).e, ⟨0, [], [], 0, 0⟩) else if (readO l).k < l.length then (164, ⟨0, [], [], 0, 0⟩) else (0, (readO l).o)
def reqR (l : Ws) : Rd := if (opRd l).1 ≠ 0 then .err (opRd l).1 else .wish false 0 (opRd l).2
def queR (l : Ws) : Rd := match l with
  | [] => .err 162
  | x :: r => match numW x with
    | Option.none => .err 163
    | some n => if (opRd r).1 ≠ 0 then .err (opRd r).1 else .wish true (n : Int) (opRd r).2
def wishR (l : Ws) : Rd := match l with
  | [] => .none
  | x :: r => if x = subB then reqR r else if x = askB then queR r else .err 230
/-- What a line says. -/
def readM (tx : List UInt8) (long : Bool) : Rd := if long then .err 160 else if (splitW tx).err ≠ 0 then .err ((splitW tx).err : Int) else wishR (splitW tx).ws

def Wi.chk (w : Wi) : Int := chkA w.o.k (⟨w.o.nm.toArray⟩ : ByteArray).size (⟨w.o.tx.toArray⟩ : ByteArray).size (w.o.n : Int) (w.o.m : Int)
/-- Why a wish is refused when it begins. -/
def bgE (x : Px) (w : Wi) : Int :=
  if w.chk ≠ 0 then w.chk else
    if w.ask then (if ¬ (6 ≤ w.o.k ∧ w.o.k ≤ 8) then 56 else if w.who < 0 ∨ x.n ≤ w.who then 1 else if x.qu.wts then 141 else if x.qu.num = 1099511627776 then 142 else 0)
    else (if x.rq.wts then 141 else if x.rq.num = 1099511627776 then 142 else 0)
def bgX (x : Px) (w : Wi) (n1 n2 : Int) : Px := if w.ask then x.asked w.o.k ⟨w.o.nm.toArray⟩ ⟨w.o.tx.toArray⟩ (w.o.n : Int) (w.o.m : Int) n2 w.who else x.sub w.o.k ⟨w.o.nm.toArray⟩ ⟨w.o.tx.toArray⟩ (w.o.n : Int) (w.o.m : Int) n1
def bgM (x : Px) (w : Wi) (n1 n2 : Int) : Ms := if w.ask then asM x.id w.who x.seen (bgX x w n1 n2).qu else rqM x.id (x.view.tmod x.n) (bgX x w n1 n2).rq
def bgS (m : Int) (s : Gs) (w : Wi) (r : List Wi) : Gs := { s with uw := w.no, ws := r, x := bgX s.x w s.n1 s.n2, n1 := if w.ask then s.n1 else min (2 * s.n1) m, n2 := if w.ask then min (2 * s.n2) m else s.n2 }
/-- What waits begins. -/
def goL (m : Int) (s : Gs) : List Wi → Go
  | [] => ⟨{ s with ws := [] }, [], []⟩
  | w :: r => if bgE s.x w = 0 then ⟨bgS m s w r, [bgM s.x w s.n1 s.n2], []⟩ else ⟨(goL m s r).s, (goL m s r).ms, refL w.no (bgE s.x w) ++ (goL m s r).tl⟩
def goM (m : Int) (s : Gs) : Go := if s.uw = 0 then goL m s s.ws else ⟨s, [], []⟩
/-- A finished line. -/
def hearM (m : Int) (s : Gs) : Go := match readM s.tx s.long with
  | .err e => ⟨s, [], refL s.no e⟩
  | .none => ⟨s, [], []⟩
  | .wish a w o => if s.ws.length = 16 then ⟨s, [], refL s.no 231⟩ else goM m { s with ws := s.ws ++ [⟨s.no, a, w, o⟩] }
def nxtM (s : Gs) : Gs := { s with no := s.no + 1, tx := [], long := false }
def addM (s : Gs) (p : List UInt8) : Gs := if s.long ∨ 8192 < s.tx.length + p.length then { s with tx := [], long := true } else { s with tx := s.tx ++ p }
/-- Bytes that are fed. -/
def feedM (m : Int) (s : Gs) : List UInt8 → Go
  | [] => ⟨s, [], []⟩
  | c :: r => if c = 10 then ⟨(feedM m (nxtM (hearM m s).s) r).s, (hearM m s).ms ++ (feedM m (nxtM (hearM m s).s) r).ms, (hearM m s).tl ++ (feedM m (nxtM (hearM m s).s) r).tl⟩ else feedM m (addM s [c]) r

theorem feedM_append (m : Int) (a b : List UInt8) : ∀ s, feedM m s (a ++ b) = ⟨(feedM m (feedM m s a).s b).s, (feedM m s a).ms ++ (feedM m (feedM m s a).s b).ms, (feedM m s a).tl ++ (feedM m (feedM m s a).s b).tl⟩ := by
  induction a with
  | nil => intro s; simp [feedM]
  | cons c r ih =>
    intro s
    simp only [List.cons_append, feedM]
    split
    · simp [ih, List.append_assoc]
    · rw [ih]
/-- Of a line that is too long nothing is kept. -/
def Gs.ok (s : Gs) : Prop := (s.long = true → s.tx = []) ∧ s.tx.length ≤ 8192
theorem addM_nil {s : Gs} (h : s.ok) : addM s [] = s := by
  obtain ⟨no, tx, long, uw, ws, x, n1, n2⟩ := s
  have h1 := h.1
  have h2 := h.2
  simp only at h1 h2
  unfold addM
  cases long with
  | true => simp [h1 rfl]
  | false => simp only [Bool.false_eq_true, false_or, List.length_nil, Nat.add_zero, List.append_nil]; rw [if_neg (by omega)]
theorem addM_ok {s : Gs} (h : s.ok) (p : List UInt8) : (addM s p).ok := by
  unfold addM
  split
  · exact ⟨fun _ => rfl, by simp⟩
  · rename_i hh
    simp only [not_or, Bool.not_eq_true] at hh
    refine ⟨fun e => ?_, ?_⟩
    · have : s.long = true := e
      rw [hh.1] at this; cases this
    · show (s.tx ++ p).length ≤ 8192
      rw [List.length_append]; omega
theorem addM_add (s : Gs) (p q : List UInt8) : addM (addM s p) q = addM s (p ++ q) := by
  unfold addM
  by_cases h1 : s.long = true ∨ 8192 < s.tx.length + p.length
  · rw [if_pos h1, if_pos (Or.inl rfl), if_pos (by rcases h1 with h | h; exact Or.inl h; exact Or.inr (by rw [List.length_append]; omega))]
  · have h1' := h1
    simp only [not_or, Bool.not_eq_true] at h1'
    rw [if_neg h1]
    by_cases h2 : 8192 < (s.tx ++ p).length + q.length
    · rw [if_pos (Or.inr h2), if_pos (Or.inr (by rw [List.length_append] at h2; rw [List.length_append]; omega))]
    · rw [if_neg (by simp [h1'.1]; rw [List.length_append] at h2; omega), if_neg (by rw [not_or]; exact ⟨by simp [h1'.1], by rw [List.length_append] at h2; rw [List.length_append]; omega⟩)]
      simp
/-- A piece without a line's end. -/
theorem feedM_piece {m : Int} {p r : List UInt8} (hp : (10 : UInt8) ∉ p) : ∀ {s : Gs}, s.ok → feedM m s (p ++ r) = feedM m (addM s p) r := by
  induction p with
  | nil => intro s h; rw [addM_nil h]; rfl
  | cons c p ih =>
    intro s h
    have hc : c ≠ 10 := fun e => hp (by simp [e])
    show (if c = 10 then _ else feedM m (addM s [c]) (p ++ r)) = _
    rw [if_neg hc, ih (fun h' => hp (by simp [h'])) (addM_ok h _), addM_add]
    rfl
end Go.Proofs.YtdhkdniddjnigaaGreatDoor

/-
  DERIVED: THE SHELF's CONTRACTS AT THIS DUMP, IN PLAIN WORDS (tools/lay-plain.mjs out of 'ScrCut.lean', which tools/lay-shelf.mjs wrote): THE SAME DECLARATIONS UNDER THE SAME NAMES: 'import', 'namespace', 'open', 'def', 'theorem' AND NOTHING ELSE: no command of the shelf's: FOR A HAND-IN. Each laying: the table of numbers ('.._ren') and one theorem, a field a fact of the dump's own or the kernel's comparison; each contract: ONE APPLICATION.
-/
namespace Go.Proofs
open Go.Shelf
def Tryz.laysT4_ren : Go.Shelf.Ren := ⟨fun | 4 => 31 | 5 => 52 | 6 => 81 | 7 => 82 | 8 => 83 | 9 => 84 | 10 => 85 | 11 => 119 | 12 => 120 | n => n, fun | 22 => 40 | 4 => 4 | 3 => 3 | 0 => 0 | 5 => 5 | 29 => 157 | 9 => 9 | 31 => 180 | 30 => 179 | n => n, fun | 0 => 0 | n => n⟩
theorem Tryz.laysT4 : Go.Proofs.SlLaysT.n4 Tryz.prog Tryz.laysT4_ren := {
  mixed := by kernel_rfl
  f4 := Tryz.func31.trans (congrArg some (by kernel_rfl))
  f5 := Tryz.func52.trans (congrArg some (by kernel_rfl))
  f6 := Tryz.func81.trans (congrArg some (by kernel_rfl))
  f7 := Tryz.func82.trans (congrArg some (by kernel_rfl))
  f8 := Tryz.func83.trans (congrArg some (by kernel_rfl))
  f9 := Tryz.func84.trans (congrArg some (by kernel_rfl))
  f10 := Tryz.func85.trans (congrArg some (by kernel_rfl))
  f11 := Tryz.func119.trans (congrArg some (by kernel_rfl))
  f12 := Tryz.func120.trans (congrArg some (by kernel_rfl))
  t0 := Tryz.underlying0
  a0 := Tryz.isAgg0
  z0 := Tryz.sizeOf0
  v0 := Tryz.zeroValue0
  t3 := Tryz.underlying3
  a3 := Tryz.isAgg3
  z3 := Tryz.sizeOf3
  v3 := Tryz.zeroValue3
  t4 := Tryz.underlying4
  a4 := Tryz.isAgg4
  z4 := Tryz.sizeOf4
  v4 := Tryz.zeroValue4
  t5 := Tryz.underlying5
  a5 := Tryz.isAgg5
  z5 := Tryz.sizeOf5
  v5 := Tryz.zeroValue5
  t9 := Tryz.underlying9
  a9 := Tryz.isAgg9
  z9 := Tryz.sizeOf9
  v9 := Tryz.zeroValue9
  t22 := Tryz.underlying40
  a22 := Tryz.isAgg40
  z22 := Tryz.sizeOf40
  v22 := Tryz.zeroValue40
  t29 := Tryz.underlying157
  a29 := Tryz.isAgg157
  z29 := Tryz.sizeOf157
  v29 := Tryz.zeroValue157
  t30 := Tryz.underlying179
  a30 := Tryz.isAgg179
  z30 := Tryz.sizeOf179
  v30 := Tryz.zeroValue179
  t31 := Tryz.underlying180
  a31 := Tryz.isAgg180
  z31 := Tryz.sizeOf180
  v31 := Tryz.zeroValue180
  g0 := by kernel_rfl }
end Go.Proofs

namespace Go.Proofs.YtdhkdniddjnigaaGreatDoor
open Go.RowKit
set_option linter.unusedVariables false

/-- Where a text has its first line feed. -/
def cutN : List UInt8 → Option Nat
  | [] => none
  | b :: l => if b = 10 then some 0 else (cutN l).map (· + 1)
theorem cutN_some {l : List UInt8} {i : Nat} (h : cutN l = some i) : i < l.length ∧ (10 : UInt8) ∉ l.take i ∧ l.drop i = 10 :: l.drop (i + 1) := by
  induction l generalizing i with
  | nil => simp [cutN] at h
  | cons b l ih =>
    unfold cutN at h
    split at h
    · rename_i hb
      simp only [Option.some.injEq] at h
      subst h
      subst hb
      simp
    · rename_i hb
      cases hc : cutN l with
      | none => rw [hc] at h; simp at h
      | some j =>
        rw [hc] at h
        simp only [Option.map_some, Option.some.injEq] at h
        subst h
        obtain ⟨h1, h2, h3⟩ := ih hc
        refine ⟨by simp only [List.length_cons]; omega, ?_, ?_⟩
        · rw [List.take_succ_cons, List.mem_cons]
          rintro (e | e)
          · exact hb e.symm
          · exact h2 e
        · rw [List.drop_succ_cons, List.drop_succ_cons]; exact h3
theorem cutN_none {l : List UInt8} (h : cutN l = none) : (10 : UInt8) ∉ l := by
  induction l with
  | nil => simp
  | cons b l ih =>
    unfold cutN at h
    split at h
    · simp at h
    · rename_i hb
      rw [List.mem_cons]
      rintro (e | e)
      · exact hb e.symm
      · cases hc : cutN l with
        | none => exact ih hc e
        | some j => rw [hc] at h; simp at h
theorem index_ten (l : List UInt8) : Lib.index l [10] = match cutN l with
    | some i => (i : Int)
    | none => -1 := by
  cases hc : cutN l with
  | some i =>
    obtain ⟨h1, h2, h3⟩ := cutN_some hc
    refine Lib.index_first (by omega) ?_ (fun j hj => ?_)
    · unfold Lib.occAt; rw [h3]; rfl
    · unfold Lib.occAt
      rw [List.drop_eq_getElem_cons (by omega)]
      have : l[j]'(by omega) ≠ 10 := fun e => h2 (by rw [← e]; exact List.mem_take_iff_getElem.2 ⟨j, by omega, rfl⟩)
      simp only [List.isPrefixOf, Bool.and_eq_false_iff, beq_eq_false_iff_ne]
      exact Or.inl (fun e => this e.symm)
  | none =>
    have h := cutN_none hc
    refine Lib.index_none (fun j hj => ?_)
    unfold Lib.occAt
    by_cases hj2 : j < l.length
    · rw [List.drop_eq_getElem_cons hj2]
      have : l[j] ≠ 10 := fun e => h (by rw [← e]; exact List.getElem_mem hj2)
      simp only [List.isPrefixOf, Bool.and_eq_false_iff, beq_eq_false_iff_ne]
      exact Or.inl (fun e => this e.symm)
    · rw [List.drop_eq_nil_of_le (by omega)]; rfl
/-- What bytes.Cut tells of a text at its first line feed. -/
def cutP (l : List UInt8) : List UInt8 := match cutN l with
  | some i => l.take i
  | none => l
def cutR (l : List UInt8) : List UInt8 := match cutN l with
  | some i => l.drop (i + 1)
  | none => []
def cutF (l : List UInt8) : Bool := (cutN l).isSome

theorem Reads.up {w : World} {ao : Option Addr} {n c : Nat} {l : List UInt8} (h : Reads w (.slice ao n c) l) {i : Nat} (hi : i ≤ l.length) : Reads w (.slice ao i c) (l.take i) := by
  obtain ⟨ao', c', e, hc, hcase⟩ := h
  simp only [Value.slice.injEq] at e
  obtain ⟨rfl, rfl, rfl⟩ := e
  refine ⟨ao, c, by rw [List.length_take, Nat.min_eq_left hi], by rw [List.length_take]; omega, ?_⟩
  rcases hcase with ⟨rfl, h1⟩ | ⟨g, o, rfl, hg, hcell⟩
  · exact Or.inl ⟨by simp, h1⟩
  · refine Or.inr ⟨g, o, rfl, hg, fun j u hu => hcell j u ?_⟩
    unfold cellsB at hu ⊢
    rw [List.map_take, List.getElem?_take] at hu
    split at hu
    · exact hu
    · simp at hu
theorem Reads.from {w : World} {ao : Option Addr} {n c : Nat} {l : List UInt8} (h : Reads w (.slice ao n c) l) {j : Nat} (hj : j ≤ l.length) : Reads w (Lib.fromV ao n c j) (l.drop j) := by
  obtain ⟨ao', c', e, hc, hcase⟩ := h
  simp only [Value.slice.injEq] at e
  obtain ⟨rfl, rfl, rfl⟩ := e
  unfold Lib.fromV
  refine ⟨_, c - j, by rw [List.length_drop], by rw [List.length_drop]; omega, ?_⟩
  rcases hcase with ⟨rfl, h1⟩ | ⟨g, o, rfl, hg, hcell⟩
  · refine Or.inl ⟨by simp, fun e => ?_⟩
    have hj0 : j = 0 := by simpa using hj
    subst hj0
    by_cases h0 : c = 0
    · omega
    · rw [if_neg (by omega)] at e
      cases ao with
      | none => have := h1 rfl; omega
      | some a => simp at e
  · by_cases h0 : c = j
    · exact Or.inl ⟨List.drop_eq_nil_of_le (by omega), fun e => by rw [if_pos h0] at e; simp at e⟩
    · refine Or.inr ⟨g, o + j, by rw [if_neg h0, Option.map_some, Addr.add_lit], hg, fun i u hu => ?_⟩
      unfold cellsB at hu hcell
      rw [List.map_drop, List.getElem?_drop] at hu
      have := hcell (j + i) u hu
      rw [← Nat.add_assoc] at this
      exact this
/-- bytes.Cut at a line feed. -/
theorem cut_any {v : Value} {l : List UInt8} {w : World} {b c2 : Nat} {m : Int} (h : Reads w v l) (hl : l.length < 4294967281) (hs : w.cell? ⟨b, 0, none⟩ = some (.int .u8 10)) (hm : w.cell? ⟨0, 0, none⟩ = some (.int .i64 m)) :
    Calls Tryz.prog 31 #[v, .slice (some ⟨b, 0, none⟩) 1 c2] w fun e w' => ∃ p r, e = .returned (.tuple #[p, r, .bool (cutF l)]) ∧ (∀ W, Reads W v l → Reads W p (cutP l) ∧ Reads W r (cutR l)) ∧ ∃ q, w' = w.drewN q := by
  obtain ⟨ao, c, rfl⟩ := h.form
  have hB : Lib.bytesOf (l.map fun x => (x.toNat : Int)) = l := by
    unfold Lib.bytesOf
    rw [List.map_map]
    conv => rhs; rw [← List.map_id l]
    exact List.map_congr_left fun x _ => by simp
  have key := Any.bytes_Cut_all Tryz.laysT4 ao (some ⟨b, 0, none⟩) l.length c 1 c2 (l.map fun x => (x.toNat : Int)) [10] m w (by simp) rfl (fun x hx => by obtain ⟨y, _, rfl⟩ := List.mem_map.1 hx; have := y.toNat_lt; omega) (by simp) ?_ ?_ ?_ ?_ hl (by omega) hm
  · change Calls Tryz.prog 31 _ _ _ at key
    refine key.mono ?_
    rintro e w' ⟨rfl, q, rfl⟩
    rw [hB, show Lib.bytesOf [10] = [10] from rfl, index_ten]
    cases hc : cutN l with
    | some i =>
      obtain ⟨h1, h2, h3⟩ := cutN_some hc
      unfold Lib.cutV
      rw [if_pos (by show (0 : Int) ≤ (i : Int); omega)]
      refine ⟨_, _, by unfold cutF; rw [hc]; rfl, fun W hW => ⟨?_, ?_⟩, q, rfl⟩
      · unfold cutP; rw [hc]; exact hW.up (i := i) (by omega)
      · unfold cutR; rw [hc]; exact hW.from (j := i + 1) (by omega)
    | none =>
      unfold Lib.cutV
      rw [if_neg (by show ¬ (0 : Int) ≤ -1; omega)]
      refine ⟨_, _, by unfold cutF; rw [hc]; rfl, fun W hW => ⟨?_, ?_⟩, q, rfl⟩
      · unfold cutP; rw [hc]; exact hW
      · unfold cutR; rw [hc]; exact Reads.nil W
  · obtain ⟨ao', c', e, hcc, hcase⟩ := h
    simp only [Value.slice.injEq] at e
    obtain ⟨rfl, -, rfl⟩ := e
    rcases hcase with ⟨rfl, h1⟩ | ⟨g, o, rfl, hg, hcell⟩
    · exact Lib.BytesIn.nil w ao _
    · refine Lib.BytesIn.of_cells (a := ⟨g, o, none⟩) (fun i hi => ?_)
      rw [Addr.add_lit]
      refine hcell i _ ?_
      simp [cellsB, List.getD, hi]
  · refine Lib.BytesIn.of_cells (a := ⟨b, 0, none⟩) (fun i hi => ?_)
    obtain rfl : i = 0 := by omega
    exact hs
  · intro e
    subst e
    obtain ⟨ao', c', e, hcc, hcase⟩ := h
    simp only [Value.slice.injEq] at e
    obtain ⟨rfl, -, rfl⟩ := e
    rcases hcase with ⟨rfl, h1⟩ | ⟨g, o, e, _⟩
    · exact h1 rfl
    · cases e
  · obtain ⟨ao', c', e, hcc, hcase⟩ := h
    simp only [Value.slice.injEq] at e
    omega
end Go.Proofs.YtdhkdniddjnigaaGreatDoor

namespace Go.Proofs.YtdhkdniddjnigaaGreatDoor
open Go.RowKit
set_option linter.unusedVariables false

/-- A wish's function: the client and what is asked are bound. -/
def Wi.fn (P : Nat) (w : Wi) : Value :=
  if w.ask then .func (.func 165) #[.agg #[ptr P, .int .i64 w.o.k, .string ⟨w.o.nm.toArray⟩, .string ⟨w.o.tx.toArray⟩, .int .i64 (w.o.n : Int), .int .i64 (w.o.m : Int), .int .i64 w.who]] #[]
  else .func (.func 163) #[.agg #[ptr P, .int .i64 w.o.k, .string ⟨w.o.nm.toArray⟩, .string ⟨w.o.tx.toArray⟩, .int .i64 (w.o.n : Int), .int .i64 (w.o.m : Int)]] #[]
def Wi.cells (P : Nat) (w : Wi) : List Value := [.int .i64 w.no, w.fn P]
theorem Wi.len (P : Nat) (w : Wi) : (w.cells P).length = 2 := rfl
theorem Wi.one (P : Nat) (w : Wi) : ∀ u ∈ w.cells P, u.oneCell' = true := by
  intro u hu
  simp only [Wi.cells, List.mem_cons, List.not_mem_nil, or_false] at hu
  rcases hu with rfl | rfl
  · rfl
  · unfold Wi.fn; split <;> rfl
/-- Wishes that wait. -/
abbrev wsC (P : Nat) (v : Value) (l : List Wi) : Comp := rowC 136 2 v l.length (l.flatMap (Wi.cells P))
/-- A gate's own cells. -/
def gtV (s : Gs) (P : Nat) (txv wsv tov : Value) : List Value := [.int .i64 s.no, txv, .bool s.long, ptr P, .int .i64 s.uw, wsv, tov]
def gtL (G P : Nat) (s : Gs) (tl : List UInt8) (b m : Int) (txv wsv tov : Value) : List Comp :=
  blkC G (gtV s P txv wsv tov) 79 :: ownC 5 txv (cellsB s.tx) :: ownC 5 tov (cellsB tl) :: wsC P wsv s.ws :: pxL P s.x b m s.n1 s.n2
/-- A gate as it stands. -/
def Gt (G P : Nat) (s : Gs) (tl : List UInt8) (b m : Int) (cs : List Comp) (w : World) : Prop := ∃ txv wsv tov, All (gtL G P s tl b m txv wsv tov ++ cs) w
theorem Gt.later {G P : Nat} {s : Gs} {tl : List UInt8} {b m : Int} {cs : List Comp} {w w' : World} (h : Gt G P s tl b m cs w) (hb : Below w.heap.size w w') : Gt G P s tl b m cs w' := by
  obtain ⟨t, u, v, h⟩ := h
  exact ⟨t, u, v, h.later hb⟩
theorem Gt.rest {G P : Nat} {s : Gs} {tl : List UInt8} {b m : Int} {cs : List Comp} {w : World} (h : Gt G P s tl b m cs w) : All cs w := by
  obtain ⟨t, u, v, h⟩ := h
  exact h.tail.tail.tail.tail.tail.tail.tail
/-- Other parts are put in another order, or new ones among them. -/
theorem Gt.perm {G P : Nat} {s : Gs} {tl : List UInt8} {b m : Int} {cs ds : List Comp} {w : World} (h : Gt G P s tl b m cs w) (hp : cs.Perm ds) : Gt G P s tl b m ds w := by
  obtain ⟨t, u, v, h⟩ := h
  exact ⟨t, u, v, h.perm (List.Perm.append_left _ hp)⟩
theorem Gt.drop {G P : Nat} {s : Gs} {tl : List UInt8} {b m : Int} {c : Comp} {cs : List Comp} {w : World} (h : Gt G P s tl b m (c :: cs) w) : Gt G P s tl b m cs w := by
  obtain ⟨t, u, v, h⟩ := h
  exact ⟨t, u, v, (h.perm List.perm_middle).tail⟩

/-- Bytes that are read are laid behind one's own. -/
theorem appB {W : World} {v : Value} {l p : List UInt8} {cs : List Comp} {ao2 : Option Addr} {n2 c2 : Nat} (A : All (ownC 5 v (cellsB l) :: cs) W) (h : Reads W (.slice ao2 n2 c2) p) (hl : l.length + p.length ≤ 140737488355328) :
    ∃ ao c w', (Builtin.append_ #[40, 40] 40 #[v, .slice ao2 n2 c2]).run Tryz.prog W = .ok (.slice ao (l.length + p.length) c) w' ∧ All (ownC 5 (.slice ao (l.length + p.length) c) (cellsB (l ++ p)) :: cs) w' := by
  obtain ⟨i1, hi1, hz0, hz1, hz2⟩ := info_parts Tryz.info5
  obtain ⟨ao3, c3, e, hc, hx⟩ := h
  simp only [Value.slice.injEq] at e
  obtain ⟨rfl, rfl, rfl⟩ := e
  obtain ⟨ao, c, w', hr, A2⟩ := appN (c := c2) (m := p.length) (news := cellsB p) Tryz.underlying40 hi1 hz0 hz1 hz2 rfl (by decide) (show All (rowC 5 1 v (cellsB l).length (cellsB l) :: cs) W from A) ao2 (by rw [cellsB_length]; omega)
    (fun h0 => by
      rcases hx with ⟨rfl, _⟩ | ⟨g, o, rfl, _, hcell⟩
      · simp at h0
      · exact ⟨⟨g, o, none⟩, rfl, fun j u hu => by rw [Addr.add_lit]; exact hcell j u hu⟩) (cellsB_one p) (by rw [cellsB_length]; unfold maxLen; omega) (by rw [cellsB_length]; omega)
  rw [cellsB_length] at hr A2
  refine ⟨ao, c, w', hr, ?_⟩
  have e2 : l.length + p.length = (cellsB (l ++ p)).length := by rw [cellsB_length, List.length_append]
  rw [cellsB_append]
  rw [cellsB_append] at e2
  unfold ownC
  have A3 := A2
  unfold rowC at A3
  rw [e2] at A3 ⊢
  exact A3
/-- A string's bytes are laid behind one's own. -/
theorem appStr {W : World} {v : Value} {l x : List UInt8} {cs : List Comp} (A : All (ownC 5 v (cellsB l) :: cs) W) (hl : l.length + x.length ≤ 140737488355328) :
    ∃ ao c w', (Builtin.append_ #[40, 9] 40 #[v, .string ⟨x.toArray⟩]).run Tryz.prog W = .ok (.slice ao (l.length + x.length) c) w' ∧ All (ownC 5 (.slice ao (l.length + x.length) c) (cellsB (l ++ x)) :: cs) w' := by
  obtain ⟨i1, hi1, hz0, hz1, hz2⟩ := info_parts Tryz.info5
  have hown : W.ownsRow 0 5 1 v (cellsB l).length (cellsB l) := A.1.2.1
  have hs : (⟨x.toArray⟩ : ByteArray).size = x.length := by simp [ByteArray.size]
  have hc : Lib.strCells ⟨x.toArray⟩ = cellsB x := by simp [Lib.strCells, cellsB]
  obtain ⟨v', w', hr, h2, h3, h4⟩ := Lib.run_append_own_string (P := Tryz.prog) W 0 40 9 40 5 i1 Tryz.underlying40 Tryz.underlying9 hi1 hz0 hz1 hz2 v (cellsB l).length (cellsB l) hown ⟨x.toArray⟩ (by rw [hs, cellsB_length]; unfold maxLen; omega) (by rw [hs, cellsB_length]; omega) (Nat.zero_le _)
  have hat : v'.ownBlock = v.ownBlock ∨ v'.ownBlock = some W.heap.size := by
    rcases hown.2 with ⟨rfl, h0⟩ | ⟨g, cap, cur, rfl, hbg, hg, hnc, hcm, hcs, htake⟩
    · by_cases hm : (⟨x.toArray⟩ : ByteArray).size = 0
      · rw [h4.2 ⟨rfl, hm⟩]; exact Or.inl rfl
      · have hr2 := run_append_nil_string (P := Tryz.prog) W 40 9 40 5 i1 (.int .u8 0) Tryz.underlying40 Tryz.underlying9 hi1 hz0 ⟨x.toArray⟩ (by omega) (by rw [hs]; omega) (by rw [hz2]; rw [hs]; omega)
        rw [hr2] at hr
        injection hr with e1 e2
        rw [← e1]
        exact Or.inr rfl
    · by_cases hroom : (cellsB l).length + (⟨x.toArray⟩ : ByteArray).size ≤ cap
      · have hr2 := Lib.run_append_room_string (P := Tryz.prog) W 40 9 40 5 i1 Tryz.underlying40 Tryz.underlying9 hi1 hz1 g (cellsB l).length cap cur hg ⟨x.toArray⟩ hroom (by omega)
        rw [hr2] at hr
        injection hr with e1 e2
        rw [← e1]
        exact Or.inl rfl
      · have holds : ∀ j u, (cellsB l)[j]? = some u → W.cell? ((⟨g, 0, none⟩ : Addr).add j) = some u := hown.cells (g := g) rfl
        have hr2 := Lib.run_append_grow_string (P := Tryz.prog) W 40 9 40 5 i1 (.int .u8 0) Tryz.underlying40 Tryz.underlying9 hi1 hz0 ⟨g, 0, none⟩ (cellsB l).length cap (cellsB l) (by rw [hz1]; simp) holds ⟨x.toArray⟩ (by omega) (by rw [hs, cellsB_length]; omega) (by rw [hz2]; exact growslice_fits (by rw [hs, cellsB_length] at *; omega) (by rw [hs, cellsB_length] at *; omega))
        rw [hr2] at hr
        injection hr with e1 e2
        rw [← e1]
        exact Or.inr rfl
  rw [hs, hc, cellsB_length] at h2
  obtain ⟨ao, c, rfl⟩ := owns_form h2
  refine ⟨ao, c, w', hr, ?_⟩
  rw [cellsB_append]
  refine A.ownGrow (base := 0) ?_ h3 hat
  rw [← cellsB_append, cellsB_length, List.length_append, cellsB_append]
  exact h2
end Go.Proofs.YtdhkdniddjnigaaGreatDoor

namespace Go.Proofs.YtdhkdniddjnigaaGreatDoor
open Go.RowKit
set_option linter.unusedVariables false

set_option maxHeartbeats 1600000 in
set_option maxRecDepth 1000000 in
/-- A line is told. -/
theorem tell_any {G : Nat} {a0 a1 a2 a3 a4 a5 tov : Value} {tl : List UInt8} {no : Int} {v : Value} {l : Ws} {cs : List Comp} {w : World} (A : All (blkC G [a0, a1, a2, a3, a4, a5, tov] 79 :: ownC 5 tov (cellsB tl) :: cs) w) (hV : ∀ W, All cs W → Vars W) (hR : ∀ W, All cs W → Rt W v l) (h0 : 0 ≤ no) (h1 : no ≤ 4611686018427387904) (hl : l.length ≤ 1000) (hJ : lenJ (Lib.itoa no :: l) ≤ 100000000) (hJ2 : (joinW (Lib.itoa no :: l)).length ≤ 1000000000) (ht : tl.length ≤ 100000000000000) :
    Calls Tryz.prog 62 #[.pointer (some ⟨G, 3, none⟩), .int .i64 no, v] w fun e w' => e = .returned (.tuple #[]) ∧ ∃ tov', All (blkC G [a0, a1, a2, a3, a4, a5, tov'] 79 :: ownC 5 tov' (cellsB (tl ++ lnB no l)) :: cs) w' := by
  obtain ⟨ao, c, rfl⟩ := (hR _ A.tail.tail).form
  obtain ⟨aot, ct, rfl⟩ := owns_form A.tail.1.2.1
  rw [cellsB_length] at A
  have C61 := hid (Itoa_any (hV w A.tail.tail) h0 (by omega))
  have HR := hid hR
  have HJ := hid hJ
  have HJ2 := hid hJ2
  have HL := hid hl
  have HT := hid ht
  have A0 := hid A
  unfold lnB
  clear hR hJ hl hV A ht hJ2
  generalize hX : Lib.itoa no = X at *
  clear hX h0 h1
  obtain ⟨J, hJe⟩ : ∃ J, Hid (J = joinW (X :: l)) := ⟨_, hid rfl⟩
  rw [← hJe.out]
  go_enter Tryz.func62, Tryz.ntmps62
  go_wp2_with fail
  refine C61.out.mono ?_
  rintro e w1 ⟨rfl, B1⟩
  have A1 := hid (A0.out.later B1)
  clear B1 A0 C61
  obtain ⟨ao1, c1, w2, hr, A2⟩ := appR (own_new A1.out [X] (by simp)) ((HR.out _ A1.out.tail.tail).later (ba _ _)) (by have := HL.out; simp only [List.length_cons, List.length_nil]; omega)
  have R : Hid ((Builtin.append_ #[43, 43] 43 #[.slice (some ⟨w1.heap.size, 0, none⟩) 1 1, .slice ao l.length c]).run Tryz.prog (w1.alloc (.cells #[.string ⟨X.toArray⟩] 9)) = .ok (.slice ao1 (1 + l.length) c1) w2) := hid hr
  have A2 : Hid (All (ownC 9 (.slice ao1 (1 + l.length) c1) (txW (X :: l)) :: blkC G [a0, a1, a2, a3, a4, a5, .slice aot tl.length ct] 79 :: ownC 5 (.slice aot tl.length ct) (cellsB tl) :: cs) w2) := hid A2
  have JC := hid (Join_any (w := w2) (rt_own A2.out) (by have := HL.out; simp only [List.length_cons]; omega) (by have := HJ.out; omega))
  rw [← hJe.out] at JC
  have HJ3 : Hid (J.length ≤ 1000000000) := hid (by rw [hJe.out]; exact HJ2.out)
  clear hr A1 HR hJe HJ2 HJ
  generalize l.length = n at *
  go_upto_region 1 with (first | (at_builtin; refine wpList_append_run rfl _ _ 43 rfl _ _ _ _ rfl rfl R.out ?_) | (go_at_call 101; refine JC.out.mono ?_; rintro e w3 ⟨rfl, B3⟩; have A3 := hid (A2.out.later B3).tail))
  have c6 : w3.cell? ⟨G, 6, none⟩ = some (.slice aot tl.length ct) := by rw [cell_at A3.out.1.2.1]; rfl
  clear JC A2 R B3
  obtain ⟨ao4, c4, w4, hr4, A4⟩ := appStr (x := J) A3.out.swap (by have := HT.out; have := HJ3.out; omega)
  have R4 := hid hr4
  have A5 := A4.alloc (.cells #[.int .u8 10] 5)
  obtain ⟨ao5, c5, w5, hr5, A6⟩ := appB (p := [10]) (ao2 := some ⟨w4.heap.size, 0, none⟩) (n2 := 1) (c2 := 1) A5 ⟨_, 1, rfl, by simp, Or.inr ⟨_, 0, rfl, by simp, fun j u hu => by
    rw [Nat.zero_add, cell_at (heap_alloc_new w4 _)]
    simpa [cellsB] using hu⟩⟩ (by have := HT.out; have := HJ3.out; rw [List.length_append]; simp only [List.length_cons, List.length_nil]; omega)
  have R5 := hid hr5
  have f6 := free_at A6.swap.1.2.1 6
  have c6' : w5.cell? ⟨G, 6, none⟩ = some (.slice aot tl.length ct) := by rw [cell_at A6.swap.1.2.1]; rfl
  have A7 := hid (A6.swap.setBlk 6 (.slice ao5 ((tl ++ J).length + [10].length) c5))
  have e7 : tl ++ J ++ [10] = tl ++ (J ++ [10]) := List.append_assoc _ _ _
  rw [e7] at A7
  clear hr4 hr5 A3 A4 A5 A6 HT HJ3 HL e7
  generalize (tl ++ J).length + [10].length = n5 at *
  generalize (tl ++ J).length = n4 at *
  go_wp2_with (first | (at_builtin; refine wpList_append_run2 rfl _ _ 40 9 rfl _ _ _ _ rfl rfl R4.out ?_) | (at_builtin; refine wpList_append_run rfl _ _ 40 rfl _ _ _ _ rfl rfl R5.out ?_))
  go_end0
  exact ⟨rfl, _, A7.out⟩
end Go.Proofs.YtdhkdniddjnigaaGreatDoor

namespace Go.Proofs.YtdhkdniddjnigaaGreatDoor
open Go.RowKit
set_option linter.unusedVariables false

theorem joinW_le (l : Ws) : (joinW l).length ≤ lenJ l := by
  have := joinW_len l l.length (Nat.le_refl _)
  rwa [List.take_length] at this
theorem itoa_len {v : Int} (h0 : 0 ≤ v) (h1 : v ≤ 9223372036854775807) : (Lib.itoa v).length ≤ 19 := by
  obtain ⟨n, rfl⟩ := Int.eq_ofNat_of_zero_le h0
  unfold Lib.itoa
  rw [if_neg (by omega)]
  exact digits_short (by omega)
theorem perm3 {α : Type} (a b c : α) (cs : List α) : (a :: b :: c :: cs).Perm (b :: c :: a :: cs) :=
  (List.Perm.swap _ _ _).trans (List.Perm.cons _ (List.Perm.swap _ _ _))

set_option maxHeartbeats 800000 in
set_option maxRecDepth 1000000 in
/-- A line is refused. -/
theorem refuse_any {G : Nat} {a0 a1 a2 a3 a4 a5 tov : Value} {tl : List UInt8} {no er : Int} {cs : List Comp} {w : World} (A : All (blkC G [a0, a1, a2, a3, a4, a5, tov] 79 :: ownC 5 tov (cellsB tl) :: cs) w) (hV : ∀ W, All cs W → Vars W) (h0 : 0 ≤ no) (h1 : no ≤ 4611686018427387904) (e0 : 0 ≤ er) (e1 : er ≤ 4611686018427387904) (ht : tl.length ≤ 100000000000000) :
    Calls Tryz.prog 54 #[.pointer (some ⟨G, 3, none⟩), .int .i64 no, .int .i64 er] w fun e w' => e = .returned (.tuple #[]) ∧ ∃ tov', All (blkC G [a0, a1, a2, a3, a4, a5, tov'] 79 :: ownC 5 tov' (cellsB (tl ++ refL no er)) :: cs) w' := by
  have C61 := hid (Itoa_any (hV w A.tail.tail) e0 (by omega))
  have n1 := itoa_len h0 (by omega)
  have n2 := itoa_len e0 (by omega)
  have hJ : lenJ (Lib.itoa no :: [refuB, Lib.itoa er]) ≤ 100000000 := by
    unfold lenJ
    simp only [List.map_cons, List.map_nil, List.sum_cons, List.sum_nil, refuB, List.length_cons, List.length_nil]
    omega
  have C62 : Hid (∀ W : World, All (ownC 9 (.slice (some ⟨W.heap.size, 0, none⟩) 2 2) (txW [refuB, Lib.itoa er]) :: blkC G [a0, a1, a2, a3, a4, a5, tov] 79 :: ownC 5 tov (cellsB tl) :: cs) (W.alloc (.cells (txW [refuB, Lib.itoa er]).toArray 9)) → Calls Tryz.prog 62 #[.pointer (some ⟨G, 3, none⟩), .int .i64 no, .slice (some ⟨W.heap.size, 0, none⟩) 2 2] (W.alloc (.cells (txW [refuB, Lib.itoa er]).toArray 9)) fun e w' => e = .returned (.tuple #[]) ∧ ∃ tov', All (blkC G [a0, a1, a2, a3, a4, a5, tov'] 79 :: ownC 5 tov' (cellsB (tl ++ refL no er)) :: cs) w') := hid (fun W hW => by
    refine (tell_any (l := [refuB, Lib.itoa er]) (hW.perm (perm3 _ _ _ _)) (fun W' h' => hV W' h'.tail) (fun W' h' => rt_own h') h0 h1 (by simp) hJ (Nat.le_trans (joinW_le _) (by omega)) ht).mono ?_
    rintro e w' ⟨rfl, tov', A'⟩
    exact ⟨rfl, tov', (A'.perm (perm3 _ _ _ _).symm).tail⟩)
  have A0 := hid A
  clear A hV hJ n1 n2 ht h0 h1 e0 e1
  have e9 : (txW [refuB, Lib.itoa er]).toArray = #[.string ⟨#[114, 101, 102, 117, 115, 101, 100]⟩, .string ⟨(Lib.itoa er).toArray⟩] := rfl
  have HO : Hid (∀ W : World, All (blkC G [a0, a1, a2, a3, a4, a5, tov] 79 :: ownC 5 tov (cellsB tl) :: cs) W → All (ownC 9 (.slice (some ⟨W.heap.size, 0, none⟩) 2 2) (txW [refuB, Lib.itoa er]) :: blkC G [a0, a1, a2, a3, a4, a5, tov] 79 :: ownC 5 tov (cellsB tl) :: cs) (W.alloc (.cells (txW [refuB, Lib.itoa er]).toArray 9))) := hid (fun W h => own_new h [refuB, Lib.itoa er] (by simp))
  generalize txW [refuB, Lib.itoa er] = TT at *
  rw [e9] at C62 HO
  clear e9
  generalize refL no er = RR at *
  generalize Lib.itoa er = X at *
  go_enter Tryz.func54, Tryz.ntmps54
  go_wp2_with (first | (go_at_call 61; refine C61.out.mono ?_; rintro e w1 ⟨rfl, B1⟩; have A1 := hid (A0.out.later B1); clear B1) | (go_at_call 62; refine (C62.out _ (HO.out _ A1.out)).mono ?_; rintro e w3 ⟨rfl, tov', B3⟩; have A3 := hid B3; clear B3))
  go_end0
  exact ⟨rfl, tov', A3.out⟩
/-- A line is refused. -/
theorem refuse_gt {G P : Nat} {s : Gs} {tl : List UInt8} {b m : Int} {cs : List Comp} {w : World} {no er : Int} (h : Gt G P s tl b m cs w) (hV : ∀ W, All cs W → Vars W) (h0 : 0 ≤ no) (h1 : no ≤ 4611686018427387904) (e0 : 0 ≤ er) (e1 : er ≤ 4611686018427387904) (ht : tl.length ≤ 100000000000000) :
    Calls Tryz.prog 54 #[.pointer (some ⟨G, 3, none⟩), .int .i64 no, .int .i64 er] w fun e w' => e = .returned (.tuple #[]) ∧ Gt G P s (tl ++ refL no er) b m cs w' := by
  obtain ⟨txv, wsv, tov, A⟩ := h
  refine (refuse_any (A.perm (List.Perm.cons _ (List.Perm.swap _ _ _))) (fun W hW => hV W (hW.tail.tail.tail.tail.tail)) h0 h1 e0 e1 ht).mono ?_
  rintro e w' ⟨rfl, tov', A'⟩
  exact ⟨rfl, txv, wsv, tov', A'.perm (List.Perm.cons _ (List.Perm.swap _ _ _))⟩
theorem Gt.cell {G P : Nat} {s : Gs} {tl : List UInt8} {b m : Int} {cs : List Comp} {w : World} {txv wsv tov : Value} (A : All (gtL G P s tl b m txv wsv tov ++ cs) w) (j : Nat) : w.cell? ⟨G, j, none⟩ = (gtV s P txv wsv tov)[j]? := by
  have := cell_at (w := w) A.1.2.1 j
  rw [this]
  simp
theorem Gt.free {G P : Nat} {s : Gs} {tl : List UInt8} {b m : Int} {cs : List Comp} {w : World} {txv wsv tov : Value} (A : All (gtL G P s tl b m txv wsv tov ++ cs) w) (j : Nat) : w.frozen? ⟨G, j, none⟩ = false := free_at A.1.2.1 j

set_option maxHeartbeats 800000 in
set_option maxRecDepth 1000000 in
/-- A piece is added to the line. -/
theorem add_gt {G P : Nat} {s : Gs} {tl : List UInt8} {b m : Int} {cs : List Comp} {w : World} {v : Value} {p : List UInt8} (h : Gt G P s tl b m cs w) (hs : s.ok) (hR : Reads w v p) (hp : p.length ≤ 100000000000000) :
    Calls Tryz.prog 32 #[.pointer (some ⟨G, 0, none⟩), v] w fun e w' => e = .returned (.tuple #[]) ∧ Gt G P (addM s p) tl b m cs w' := by
  obtain ⟨txv, wsv, tov, A⟩ := h
  obtain ⟨ao, c, rfl⟩ := hR.form
  obtain ⟨at_, ct, rfl⟩ := owns_form A.tail.1.2.1
  rw [cellsB_length] at A
  have c1 : w.cell? ⟨G, 1, none⟩ = some (.slice at_ s.tx.length ct) := Gt.cell A 1
  have c2 : w.cell? ⟨G, 2, none⟩ = some (.bool s.long) := Gt.cell A 2
  have f1 := Gt.free A 1
  have f2 := Gt.free A 2
  have h8 := hs.2
  have N : Hid (Gt G P { s with tx := [], long := true } tl b m cs ((w.setCell ⟨G, 1, none⟩ (.slice none 0 0)).setCell ⟨G, 2, none⟩ (.bool true))) := hid (by
    have A2 := ((A.setBlk 1 (.slice none 0 0)).setBlk 2 (.bool true)).swap.tail
    exact ⟨.slice none 0 0, wsv, tov, (All.addNil (e := 5) A2).swap⟩)
  have w8 : IntKind.i64.wrap (8192 - (s.tx.length : Int)) = 8192 - (s.tx.length : Int) := by rw [IntKind.wrap_i64]; omega
  by_cases h1 : s.long = true
  · have e1 : addM s p = { s with tx := [], long := true } := by unfold addM; rw [if_pos (Or.inl h1)]
    rw [e1]
    rw [h1] at c2
    clear A hs hR hp h8 h1 e1
    generalize s.tx.length = n at *
    go_enter Tryz.func32, Tryz.ntmps32
    go_wp2
    refine bodyPost_ret (results_none rfl _ _ _) rfl ?_
    exact ⟨rfl, N.out⟩
  · simp only [Bool.not_eq_true] at h1
    rw [h1] at c2
    by_cases h2 : 8192 < s.tx.length + p.length
    · have e1 : addM s p = { s with tx := [], long := true } := by unfold addM; rw [if_pos (Or.inr h2)]
      rw [e1]
      have h3 : (8192 - (s.tx.length : Int)) < (p.length : Int) := by omega
      clear A hs hR hp h8 h1 e1 h2
      generalize s.tx.length = n at *
      generalize p.length = k at *
      go_enter Tryz.func32, Tryz.ntmps32
      go_wp2
      refine bodyPost_ret (results_none rfl _ _ _) rfl ?_
      exact ⟨rfl, N.out⟩
    · have e1 : addM s p = { s with tx := s.tx ++ p } := by unfold addM; rw [if_neg (by rw [h1]; simp; omega)]
      rw [e1]
      have h3 : ¬ ((8192 - (s.tx.length : Int)) < (p.length : Int)) := by omega
      obtain ⟨ao5, c5, w5, hr5, A6⟩ := appB A.swap hR (by omega)
      have R5 := hid hr5
      have c1' : w5.cell? ⟨G, 1, none⟩ = some (.slice at_ s.tx.length ct) := by rw [cell_at A6.swap.1.2.1]; rfl
      have f1' := free_at A6.swap.1.2.1 1
      have A7 := hid (A6.swap.setBlk 1 (.slice ao5 (s.tx.length + p.length) c5))
      have N2 : Hid (Gt G P { s with tx := s.tx ++ p } tl b m cs (w5.setCell ⟨G, 1, none⟩ (.slice ao5 (s.tx.length + p.length) c5))) := hid ⟨_, wsv, tov, A7.out⟩
      clear A hs hR hp h8 h1 e1 h2 N A6 A7 hr5
      generalize s.tx.length + p.length = q at *
      generalize s.tx.length = n at *
      generalize p.length = k at *
      go_enter Tryz.func32, Tryz.ntmps32
      go_wp2_with (at_builtin; refine wpList_append_run rfl _ _ 40 rfl _ _ _ _ rfl rfl R5.out ?_)
      go_end0
      exact ⟨rfl, N2.out⟩
end Go.Proofs.YtdhkdniddjnigaaGreatDoor

namespace Go.Proofs.YtdhkdniddjnigaaGreatDoor
open Go.RowKit
set_option linter.unusedVariables false

/-- A line's words, or why it has none. -/
def wdsM (tx : List UInt8) (long : Bool) : Ws × Nat := if long then ([], 160) else ((splitW tx).ws, (splitW tx).err)
set_option maxRecDepth 1000000 in
theorem words_any {B : Nat} {v : Value} {tx : List UInt8} {long : Bool} {cs : List Comp} {w : World} (A : All cs w) (c1 : w.cell? ⟨B, 1, none⟩ = some v) (c2 : w.cell? ⟨B, 2, none⟩ = some (.bool long)) (hR : Reads w v tx) (hl : tx.length ≤ 140737488355328) :
    Calls Tryz.prog 86 #[.pointer (some ⟨B, 0, none⟩)] w fun e w' => ∃ v', e = .returned (.tuple #[v', .int .i64 ((wdsM tx long).2 : Int)]) ∧ All (ownC 9 v' (txW (wdsM tx long).1) :: cs) w' := by
  obtain ⟨ao, c, rfl⟩ := hR.form
  cases long with
  | true =>
    have A1 := hid (All.addNil (e := 9) A)
    clear A hR hl
    go_enter Tryz.func86, Tryz.ntmps86
    go_wp2
    go_ret2
    exact ⟨_, rfl, A1.out⟩
  | false =>
    have cv := conv_string hR
    have S := hid (Split_any A hl)
    unfold SplitPost at S
    have e1 : wdsM tx false = ((splitW tx).ws, (splitW tx).err) := rfl
    rw [e1]
    clear A hR hl e1
    generalize tx.length = n at *
    generalize ByteArray.mk tx.toArray = T at *
    generalize splitW tx = SS at *
    go_enter Tryz.func86, Tryz.ntmps86
    go_wp2_with (go_at_call 121; refine S.out.mono ?_; rintro e w1 ⟨v', rfl, A1⟩; have A1 := hid A1)
    go_ret2
    exact ⟨_, rfl, A1.out⟩

theorem ret_cell52 {fn : Func} (hf : fn.results = #[.cell 2 42, .tmp 3]) {R : Ending → World → Prop} {a : Act} {w : World} {b : Nat} {v0 v1 v2 v3 v4 k : Value} (ht : a.tmps.getD 2 undef = ptr b) (h3 : a.tmps.getD 3 undef = k) (hg : w.heap[b]? = some (.cells #[v0, v1, v2, v3, v4] 42 (0, 0))) (hd : a.defers = []) (hR : R (.returned (.tuple #[.agg #[v0, v1, v2, v3, v4], k])) w) : bodyPost Tryz.prog fn R .ret a w := by
  refine bodyPost_ret (v := .tuple #[.agg #[v0, v1, v2, v3, v4], k]) ?_ hd hR
  have hp : a.tmps[2]?.getD undef = ptr b := by rw [← ht]; simp
  have hp3 : a.tmps[3]?.getD undef = k := by rw [← h3]; simp
  simp [results, hf, hp, hp3, asAddr, run_loadVar_row w b 42 42 #[v0, v1, v2, v3, v4] (0, 0) _ hg Tryz.underlying42 rfl (by rw [Tryz.size27]; rfl)]
theorem set5c {B : Nat} {a b c d e v0 v1 v2 v3 v4 : Value} {cs : List Comp} {w : World} (A : All (blkC B [a, b, c, d, e] 42 :: cs) w) : All (blkC B [v0, v1, v2, v3, v4] 42 :: cs) (((((w.setCell ⟨B, 0, none⟩ v0).setCell ⟨B, 1, none⟩ v1).setCell ⟨B, 2, none⟩ v2).setCell ⟨B, 3, none⟩ v3).setCell ⟨B, 4, none⟩ v4) :=
  ((((A.setBlk 0 v0).setBlk 1 v1).setBlk 2 v2).setBlk 3 v3).setBlk 4 v4
def OpR.val (o : OpR) : Value := opV o.k ⟨o.nm.toArray⟩ ⟨o.tx.toArray⟩ (o.n : Int) (o.m : Int)

set_option maxHeartbeats 1600000 in
set_option maxRecDepth 1000000 in
theorem readOp_any {v : Value} {l : Ws} {cs : List Comp} {w : World} (A : All cs w) (hR : ∀ W, All cs W → Rt W v l) (hV : ∀ W, All cs W → Vars W) (hT : ∀ W, All cs W → Tab W) (hW : ∀ W, All cs W → Wf W) (hl : l.length ≤ 140737488355328) (hs : ∀ x ∈ l, x.length ≤ 140737488355328) :
    Calls Tryz.prog 162 #[v] w fun e w' => e = .returned (.tuple #[(opRd l).2.val, .int .i64 (opRd l).1]) ∧ All cs w' := by
  obtain ⟨ao, c, rfl⟩ := (hR w A).form
  have A0 := hid (A.addBlk [.int .i64 0, .string ⟨#[]⟩, .string ⟨#[]⟩, .int .i64 0, .int .i64 0] 42)
  obtain ⟨H, hH⟩ : ∃ H, Hid (H = w.heap.size) := ⟨_, hid rfl⟩
  rw [← hH.out] at A0
  have RO := hid (ReadOp_any A0.out (fun W h => hR W h.tail) (fun W h => hV W h.tail) (fun W h => hT W h.tail) (fun W h => hW W h.tail) hl hs)
  unfold ROPost at RO
  unfold opRd OpR.val
  clear A hR hV hT hW hs hl
  generalize readO l = r at *
  obtain ⟨⟨k, nm, tx, n, m⟩, q, er⟩ := r
  simp only at RO ⊢
  by_cases he : er ≠ 0
  · rw [if_pos he]
    generalize ByteArray.mk nm.toArray = NM at *
    generalize ByteArray.mk tx.toArray = TX at *
    have he' : (er != 0) = true := by simpa using he
    clear he
    generalize l.length = nl at *
    go_enter Tryz.func162, Tryz.ntmps162
    go_upto_region 1 with fail
    simp only [← hH.out]
    generalize w.alloc (.cells #[.int .i64 0, .string ⟨#[]⟩, .string ⟨#[]⟩, .int .i64 0, .int .i64 0] 42) = w1 at *
    go_wp2_with (go_at_call 190; refine RO.out.mono ?_; rintro e w2 ⟨rfl, A2⟩; have A3 := hid ((set5c (v0 := .int .i64 0) (v1 := .string ⟨#[]⟩) (v2 := .string ⟨#[]⟩) (v3 := .int .i64 0) (v4 := .int .i64 0) A2).alloc (.cells #[.int .i64 k, .string NM, .string TX, .int .i64 (n : Int), .int .i64 (m : Int)] 42)); obtain ⟨y0, y1, y2, y3, y4, ylt⟩ := blk5 A2 (.head _); obtain ⟨f0, f1, f2, f3, f4⟩ := blk5f A2; clear A2)
    exact ret_cell52 rfl rfl rfl A3.out.1.2.1 rfl ⟨rfl, A3.out.tail⟩
  · rw [if_neg he]
    have he0 : er = 0 := Classical.byContradiction he
    subst he0
    clear he
    by_cases hq : q < l.length
    · rw [if_pos hq]
      generalize ByteArray.mk nm.toArray = NM at *
      generalize ByteArray.mk tx.toArray = TX at *
      have hq' : (q : Int) < (l.length : Int) := by omega
      clear hq
      generalize l.length = nl at *
      go_enter Tryz.func162, Tryz.ntmps162
      go_upto_region 1 with fail
      simp only [← hH.out]
      generalize w.alloc (.cells #[.int .i64 0, .string ⟨#[]⟩, .string ⟨#[]⟩, .int .i64 0, .int .i64 0] 42) = w1 at *
      go_wp2_with (go_at_call 190; refine RO.out.mono ?_; rintro e w2 ⟨rfl, A2⟩; have A3 := hid ((set5c (v0 := .int .i64 0) (v1 := .string ⟨#[]⟩) (v2 := .string ⟨#[]⟩) (v3 := .int .i64 0) (v4 := .int .i64 0) A2).alloc (.cells #[.int .i64 k, .string NM, .string TX, .int .i64 (n : Int), .int .i64 (m : Int)] 42)); obtain ⟨y0, y1, y2, y3, y4, ylt⟩ := blk5 A2 (.head _); obtain ⟨f0, f1, f2, f3, f4⟩ := blk5f A2; clear A2)
      exact ret_cell52 rfl rfl rfl A3.out.1.2.1 rfl ⟨rfl, A3.out.tail⟩
    · rw [if_neg hq]
      dsimp only
      generalize ByteArray.mk nm.toArray = NM at *
      generalize ByteArray.mk tx.toArray = TX at *
      have hq' : ¬ (q : Int) < (l.length : Int) := by omega
      clear hq
      generalize l.length = nl at *
      go_enter Tryz.func162, Tryz.ntmps162
      go_upto_region 1 with fail
      simp only [← hH.out]
      generalize w.alloc (.cells #[.int .i64 0, .string ⟨#[]⟩, .string ⟨#[]⟩, .int .i64 0, .int .i64 0] 42) = w1 at *
      go_wp2_with (go_at_call 190; refine RO.out.mono ?_; rintro e w2 ⟨rfl, A2⟩; have A3 := hid ((set5c (v0 := .int .i64 k) (v1 := .string NM) (v2 := .string TX) (v3 := .int .i64 (n : Int)) (v4 := .int .i64 (m : Int)) A2).alloc (.cells #[.int .i64 k, .string NM, .string TX, .int .i64 (n : Int), .int .i64 (m : Int)] 42)); obtain ⟨y0, y1, y2, y3, y4, ylt⟩ := blk5 A2 (.head _); obtain ⟨f0, f1, f2, f3, f4⟩ := blk5f A2; clear A2)
      exact ret_cell52 rfl rfl rfl A3.out.1.2.1 rfl ⟨rfl, A3.out.tail⟩
end Go.Proofs.YtdhkdniddjnigaaGreatDoor

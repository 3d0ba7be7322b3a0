import Derived.Test.YteloaggebkbeeaaDoorPx13
import Derived.Test.YteloaggebkbeeaaDoorPx9
namespace Go.Proofs.YteloaggebkbeeaaDoor
open Go.RowKit
set_option linter.unusedVariables false

/-- Which of n things a number speaks of. -/
def pickV (c n : Int) : Int := (if c < 0 then -(c + 1) else c).tmod n
theorem pickV_nonneg {c n : Int} (hn : 1 ≤ n) : 0 ≤ pickV c n ∧ pickV c n < n := by
  unfold pickV
  refine ⟨Int.tmod_nonneg _ (by split <;> omega), Int.tmod_lt_of_pos _ (by omega)⟩
theorem pick_is {w : World} (c n : Int) (hc : -9223372036854775808 ≤ c ∧ c ≤ 9223372036854775807) (hn : 1 ≤ n) : Calls Tryd.prog 13 #[.int .i64 c, .int .i64 n] w fun e w' => e = .returned (.int .i64 (pickV c n)) ∧ w' = w := by
  have n0 : n ≠ 0 := by omega
  have n1 : n ≠ -1 := by omega
  by_cases h : c < 0
  · have e1 : decide (c < 0) = true := by simpa using h
    have e2 : IntKind.i64.wrap (c + 1) = c + 1 := by rw [IntKind.wrap_i64]; omega
    have e3 : IntKind.i64.wrap (-(c + 1)) = -(c + 1) := by rw [IntKind.wrap_i64]; omega
    have R : Hid (pickV c n = -(c + 1).tmod n) := hid (by unfold pickV; rw [if_pos h, Int.neg_tmod])
    clear h hc hn
    rw [R.out]
    go_enter Tryd.func13, Tryd.ntmps13
    go_wp2
    go_ret
    exact ⟨rfl, rfl⟩
  · have e1 : decide (c < 0) = false := by simpa using h
    have R : Hid (pickV c n = c.tmod n) := hid (by unfold pickV; rw [if_neg h])
    clear h hc hn
    rw [R.out]
    go_enter Tryd.func13, Tryd.ntmps13
    go_wp2
    go_ret
    exact ⟨rfl, rfl⟩
/-- A config that may be, out of any. -/
structure Cg where
  a0 : Int
  a1 : Int
  a2 : Int
  a3 : Int
  a4 : Int
  a5 : Int
  a6 : Int
  a7 : Int
  a8 : Int
  a9 : Int
def Cg.cells (c : Cg) : List Value := [.int .i64 c.a0, .int .i64 c.a1, .int .i64 c.a2, .int .i64 c.a3, .int .i64 c.a4, .int .i64 c.a5, .int .i64 c.a6, .int .i64 c.a7, .int .i64 c.a8, .int .i64 c.a9]
def Cg.ok (c : Cg) : Bool := cfgOK c.a0 c.a1 c.a2 c.a3 c.a4 c.a5 c.a6 c.a7 c.a8 c.a9
def plainG : Cg := ⟨3, 2, 2, 3, 8, 64, 4, 4, 8, 2⟩
theorem plain_okG : plainG.ok = true := by decide +kernel
def Cg.right (c : Cg) : Cg := if c.ok then c else plainG
theorem Cg.right_ok (c : Cg) : c.right.ok = true := by
  unfold Cg.right
  split
  · assumption
  · exact plain_okG
theorem info23 : (Tryd.prog.info? 23).map (·.size) = some 10 := by kernel_rfl
set_option maxHeartbeats 800000 in
set_option maxRecDepth 1000000 in
theorem right_any {cs : List Comp} {w : World} (h : All cs w) (c : Cg) : Calls Tryd.prog 8 #[.agg c.cells.toArray] w fun e w' => e = .returned (.agg c.right.cells.toArray) ∧ All cs w' := by
  obtain ⟨M, hM⟩ : ∃ M, Hid (M = w.heap.size) := ⟨_, hid rfl⟩
  obtain ⟨G, hG⟩ : ∃ G, Hid (G = w.heap.size + 1) := ⟨_, hid rfl⟩
  have A1 : Hid (All (blkC M c.cells 23 :: blkC G [.int .i64 0, .int .i64 0, .int .i64 0, .int .i64 0, .int .i64 0, .int .i64 0, .int .i64 0, .int .i64 0, .int .i64 0, .int .i64 0] 23 :: cs) ((w.alloc (.cells c.cells.toArray 23)).alloc (.cells #[.int .i64 0, .int .i64 0, .int .i64 0, .int .i64 0, .int .i64 0, .int .i64 0, .int .i64 0, .int .i64 0, .int .i64 0, .int .i64 0] 23))) := hid (by
    have := ((h.addBlk c.cells 23).addBlk [.int .i64 0, .int .i64 0, .int .i64 0, .int .i64 0, .int .i64 0, .int .i64 0, .int .i64 0, .int .i64 0, .int .i64 0, .int .i64 0] 23).swap
    simp only [World.size_alloc] at this
    rw [hM.out, hG.out]
    exact this)
  have C21 : Hid (∀ W : World, Calls Tryd.prog 21 #[.agg c.cells.toArray] W fun e w' => e = .returned (.int .i64 (cfgE c.ok)) ∧ Below W.heap.size W w') := hid (fun W => cfg_ref _ _ _ _ _ _ _ _ _ _)
  have C18 : Hid (∀ W : World, Calls Tryd.prog 18 #[] W fun e w' => e = .returned (.agg plainG.cells.toArray) ∧ w' = W.alloc (cfgB 3 2 2 3 8 64 4 4 8 2)) := hid (fun W => plain_any)
  have I1 : Hid ((Tryd.prog.info? 23).map (·.size) = some c.cells.toArray.size) := hid info23
  have I2 : Hid ((Tryd.prog.info? 23).map (·.size) = some plainG.cells.toArray.size) := hid info23
  have O1 : Hid (c.cells.toArray.all (·.oneCell') = true) := hid (by simp [Cg.cells, Value.oneCell'])
  have O2 : Hid (plainG.cells.toArray.all (·.oneCell') = true) := hid (by simp [Cg.cells, Value.oneCell'])
  have Z1 : Hid (([.int .i64 0, .int .i64 0, .int .i64 0, .int .i64 0, .int .i64 0, .int .i64 0, .int .i64 0, .int .i64 0, .int .i64 0, .int .i64 0] : List Value).toArray.size = c.cells.toArray.size) := hid rfl
  have Z2 : Hid (([.int .i64 0, .int .i64 0, .int .i64 0, .int .i64 0, .int .i64 0, .int .i64 0, .int .i64 0, .int .i64 0, .int .i64 0, .int .i64 0] : List Value).toArray.size = plainG.cells.toArray.size) := hid rfl
  have ER : Hid (c.right = if c.ok then c else plainG) := hid rfl
  obtain ⟨PC, hPC⟩ : ∃ PC, Hid (PC = c.cells.toArray) := ⟨_, hid rfl⟩
  obtain ⟨PP, hPP⟩ : ∃ PC, Hid (PC = plainG.cells.toArray) := ⟨_, hid rfl⟩
  have HM : Hid (∀ W, All (blkC M c.cells 23 :: blkC G [.int .i64 0, .int .i64 0, .int .i64 0, .int .i64 0, .int .i64 0, .int .i64 0, .int .i64 0, .int .i64 0, .int .i64 0, .int .i64 0] 23 :: cs) W → W.heap[M]? = some (.cells PC 23 (0, 0)) ∧ W.heap[G]? = some (.cells ([.int .i64 0, .int .i64 0, .int .i64 0, .int .i64 0, .int .i64 0, .int .i64 0, .int .i64 0, .int .i64 0, .int .i64 0, .int .i64 0] : List Value).toArray 23 (0, 0))) := hid (fun W hW => ⟨by rw [hPC.out]; exact hW.1.2.1, hW.tail.1.2.1⟩)
  rw [← hPC.out] at A1 C21 I1 O1 Z1 ⊢
  rw [← hPP.out] at C18 I2 O2 Z2
  clear h
  cases hok : c.ok
  · rw [hok] at C21 ER
    have ER := hid (show c.right = plainG from ER.out)
    rw [ER.out, ← hPP.out]
    clear hok
    go_enter Tryd.func8, Tryd.ntmps8
    go_upto_region 1 with fail
    simp only [← hM.out]
    have eG : M + 1 = G := by rw [hM.out, hG.out]
    simp only [eG]
    clear eG
    generalize (w.alloc (.cells PC 23)).alloc (.cells #[.int .i64 0, .int .i64 0, .int .i64 0, .int .i64 0, .int .i64 0, .int .i64 0, .int .i64 0, .int .i64 0, .int .i64 0, .int .i64 0] 23) = w1 at A1 ⊢
    have H1 := hid (HM.out _ A1.out).1
    go_wp2_with (refine wpList_load_row rfl 23 _ rfl M rfl 23 PC (0, 0) _ H1.out Tryd.underlying23 rfl I1.out ?_)
    refine (C21.out _).mono ?_
    rintro e w2 ⟨rfl, BB⟩
    have A2 := hid (A1.out.later BB)
    clear BB C21 A1 H1
    have ez : cfgE false = 42 := rfl
    rw [ez]
    go_wp2_with fail
    refine (C18.out _).mono ?_
    rintro e w3 ⟨rfl, hw3⟩
    have A3 : Hid (All (blkC M c.cells 23 :: blkC G [.int .i64 0, .int .i64 0, .int .i64 0, .int .i64 0, .int .i64 0, .int .i64 0, .int .i64 0, .int .i64 0, .int .i64 0, .int .i64 0] 23 :: cs) w3) := hid (by rw [hw3]; exact A2.out.alloc _)
    clear hw3 A2
    have H3 := hid (HM.out _ A3.out).2
    have A4 := hid (A3.out.swap.setRow (vs' := plainG.cells))
    go_wp2_with (refine wpList_store_row rfl 23 _ _ rfl G PP rfl rfl 23 _ H3.out I2.out Z2.out O2.out ?_)
    rw [hPP.out] at I2 ⊢
    refine bodyPost_ret (v := .agg plainG.cells.toArray) (results_cell_row (fn := Tryd.f8) rfl _ _ G 23 plainG.cells.toArray (0, 0) _ rfl A4.out.1.2.1 Tryd.underlying23 rfl I2.out) rfl ?_
    exact ⟨rfl, A4.out.tail.tail⟩
  · rw [hok] at C21 ER
    have ER := hid (show c.right = c from ER.out)
    rw [ER.out, ← hPC.out]
    clear hok
    go_enter Tryd.func8, Tryd.ntmps8
    go_upto_region 1 with fail
    simp only [← hM.out]
    have eG : M + 1 = G := by rw [hM.out, hG.out]
    simp only [eG]
    clear eG
    generalize (w.alloc (.cells PC 23)).alloc (.cells #[.int .i64 0, .int .i64 0, .int .i64 0, .int .i64 0, .int .i64 0, .int .i64 0, .int .i64 0, .int .i64 0, .int .i64 0, .int .i64 0] 23) = w1 at A1 ⊢
    have H1 := hid (HM.out _ A1.out).1
    go_wp2_with (refine wpList_load_row rfl 23 _ rfl M rfl 23 PC (0, 0) _ H1.out Tryd.underlying23 rfl I1.out ?_)
    refine (C21.out _).mono ?_
    rintro e w2 ⟨rfl, BB⟩
    have A2 := hid (A1.out.later BB)
    clear BB C21 A1 H1
    have ez : cfgE true = 0 := rfl
    rw [ez]
    have H2 := hid (HM.out _ A2.out).1
    have H3 := hid (HM.out _ A2.out).2
    have A4 := hid (A2.out.swap.setRow (vs' := c.cells))
    go_wp2_with (first | (refine wpList_load_row rfl 23 _ rfl M rfl 23 PC (0, 0) _ H2.out Tryd.underlying23 rfl I1.out ?_) | (refine wpList_store_row rfl 23 _ _ rfl G PC rfl rfl 23 _ H3.out I1.out Z1.out O1.out ?_))
    rw [hPC.out] at I1 ⊢
    refine bodyPost_ret (v := .agg c.cells.toArray) (results_cell_row (fn := Tryd.f8) rfl _ _ G 23 c.cells.toArray (0, 0) _ rfl A4.out.1.2.1 Tryd.underlying23 rfl I1.out) rfl ?_
    exact ⟨rfl, A4.out.tail.tail⟩
end Go.Proofs.YteloaggebkbeeaaDoor

namespace Go.Proofs.YteloaggebkbeeaaDoor
open Go.RowKit
set_option linter.unusedVariables false

def Px.askd (x : Px) (k : Int) (nm tx : ByteArray) (a d n2 : Int) : Px := { x with qu := { x.qu with num := x.qu.num + 1, wts := true, ok := k, onm := nm, otx := tx, on := a, om := d, left := n2 } }
/-- The state behind a question that began. -/
def Px.asked (x : Px) (k : Int) (nm tx : ByteArray) (a d n2 who : Int) : Px := { x.askd k nm tx a d n2 with who := who, least := x.seen }
set_option maxHeartbeats 1600000 in
set_option maxRecDepth 1000000 in
/-- A question that may be, where none waits. -/
theorem ask_ok {P : Nat} {x : Px} {b m n1 n2 : Int} {cs : List Comp} {w w0 : World} (h : All (pxL P x b m n1 n2 ++ cs) w) (hT : Tab w0) (hin : inC w0 ∈ cs) (k : Int) (nm tx : ByteArray) (a d : Int) (hc : chkA k nm.size tx.size a d = 0) (hk : 6 ≤ k ∧ k ≤ 8) (who : Int) (hw0 : 0 ≤ who) (hw1 : who < x.n) (hw : x.qu.wts = false) (hn : 0 ≤ x.qu.num) (hn2 : x.qu.num < 1099511627776) (h1 : 1 ≤ n2) (h2 : n2 ≤ m) (h3 : m ≤ 1024) :
    Calls Tryd.prog 12 #[.pointer (some ⟨P, 0, none⟩), .int .i64 who, opV k nm tx a d] w fun e w' => ∃ G, e = .returned (.tuple #[.slice (some ⟨G, 0, none⟩) 1 1, .int .i64 0]) ∧ All (blkC G (asM x.id who x.seen (x.asked k nm tx a d n2 who).qu).cells 41 :: (pxL P (x.asked k nm tx a d n2 who) b m n1 (min (2 * n2) m) ++ cs)) w' := by
  obtain ⟨H, hH⟩ : ∃ H, Hid (H = w.heap.size) := ⟨_, hid rfl⟩
  have A1 := hid (h.addBlk [.int .i64 k, .string nm, .string tx, .int .i64 a, .int .i64 d] 32)
  rw [← hH.out] at A1
  have A1 := hid (A1.out.perm (List.perm_middle (l₁ := pxL P x b m n1 n2)).symm)
  have C : Hid (Calls Tryd.prog 23 #[opV k nm tx a d] (w.alloc (.cells #[.int .i64 k, .string nm, .string tx, .int .i64 a, .int .i64 d] 32)) fun e w' => e = .returned (.int .i64 0) ∧ Below (w.alloc (.cells #[.int .i64 k, .string nm, .string tx, .int .i64 a, .int .i64 d] 32)).heap.size (w.alloc (.cells #[.int .i64 k, .string nm, .string tx, .int .i64 a, .int .i64 d] 32)) w') := hid (by
    have := check_any (hT.below (A1.out.into (List.mem_append_right _ (List.mem_cons_of_mem _ hin)))) k nm tx a d
    rw [hc] at this
    exact this)
  have C31 : Hid (∀ W : World, Calls Tryd.prog 31 #[.int .i64 k] W fun e w' => e = .returned (.bool true) ∧ w' = W) := hid (fun W => by have := query_any (w := W) k; rw [decide_eq_true hk] at this; exact this)
  have HC : Hid (∀ W, All (pxL P x b m n1 n2 ++ (blkC H [.int .i64 k, .string nm, .string tx, .int .i64 a, .int .i64 d] 32 :: cs)) W → Calls Tryd.prog 24 #[.pointer (some ⟨P, 13, none⟩), opV k nm tx a d] W fun e w' => e = .returned (.int .i64 0) ∧ All (pxL P (x.askd k nm tx a d n2) b m n1 (min (2 * n2) m) ++ (blkC H [.int .i64 k, .string nm, .string tx, .int .i64 a, .int .i64 d] 32 :: cs)) w') := hid (fun W hW => begQ_ok hW hw hn hn2 h1 h2 h3 k nm tx a d)
  have C32 : Hid (∀ W, All (pxL P (x.asked k nm tx a d n2 who) b m n1 (min (2 * n2) m) ++ (blkC H [.int .i64 k, .string nm, .string tx, .int .i64 a, .int .i64 d] 32 :: cs)) W → Calls Tryd.prog 32 #[.pointer (some ⟨P, 13, none⟩), .int .i64 x.id, .int .i64 who] W fun e w' => e = .returned (.agg (asM x.id who x.seen (x.asked k nm tx a d n2 who).qu).cells.toArray) ∧ Below W.heap.size W w') := hid (fun W hW => msgQ hW x.id who)
  obtain ⟨ie, z, bs⟩ := bs41 (asM x.id who x.seen (x.asked k nm tx a d n2 who).qu)
  have BS := hid bs
  obtain ⟨MM, hMM⟩ : ∃ MM, Hid (MM = (asM x.id who x.seen (x.asked k nm tx a d n2 who).qu).cells) := ⟨_, hid rfl⟩
  rw [← hMM.out] at BS C32 ⊢
  have e1 : decide (who < 0) = false := by simpa using hw0
  have e2 : decide (x.n ≤ who) = false := by simpa using hw1
  clear h hT hin hc hk hw hn hn2 h1 h2 h3 bs hw0 hw1
  go_enter Tryd.func12, Tryd.ntmps12
  go_wp2_with fail
  refine C.out.mono ?_
  rintro e w1 ⟨rfl, BB⟩
  have A2 : Hid (All (pxL P x b m n1 n2 ++ (blkC H [.int .i64 k, .string nm, .string tx, .int .i64 a, .int .i64 d] 32 :: cs)) w1) := hid (A1.out.later BB)
  simp only [← hH.out]
  clear BB C A1
  have SF : Hid (∀ W y p q, All (pxL P y b m p q ++ (blkC H [.int .i64 k, .string nm, .string tx, .int .i64 a, .int .i64 d] 32 :: cs)) W → W.cell? ⟨H, 0, none⟩ = some (.int .i64 k) ∧ W.cell? ⟨H, 1, none⟩ = some (.string nm) ∧ W.cell? ⟨H, 2, none⟩ = some (.string tx) ∧ W.cell? ⟨H, 3, none⟩ = some (.int .i64 a) ∧ W.cell? ⟨H, 4, none⟩ = some (.int .i64 d)) := hid (fun W y p q hW => opCells (hW.blk (by simp)))
  have k0 : w1.cell? ⟨H, 0, none⟩ = some (.int .i64 k) := (SF.out _ _ _ _ A2.out).1
  have c0 : w1.cell? ⟨P, 0, none⟩ = some (.int .i64 x.n) := by rw [cell_at A2.out.px]; rfl
  go_upto_region 8 with (go_at_call 31; refine (C31.out _).mono ?_; rintro e w' ⟨rfl, rfl⟩)
  have A3 := hid A2.out.drew
  have p0 := hid (SF.out _ _ _ _ A3.out)
  clear k0 c0
  go_region_held3 (fun W => W.cell? ⟨H, 0, none⟩ = some (.int .i64 k) ∧ W.cell? ⟨H, 1, none⟩ = some (.string nm) ∧ W.cell? ⟨H, 2, none⟩ = some (.string tx) ∧ W.cell? ⟨H, 3, none⟩ = some (.int .i64 a) ∧ W.cell? ⟨H, 4, none⟩ = some (.int .i64 d)) (first | with_reducible exact p0.out | with_reducible exact p1.out)
    (first
      | (go_at_call 24; refine (HC.out _ A3.out).mono ?_; rintro e w2 ⟨rfl, hw2⟩; have A4 := hid hw2; have p1 := hid (SF.out _ _ _ _ A4.out); clear hw2))
  clear p0 p1 A3 A2 SF HC
  have c3 : w2.cell? ⟨P, 3, none⟩ = some (.int .i64 x.seen) := by rw [cell_at A4.out.px]; rfl
  have c22 : w2.cell? ⟨P, 22, none⟩ = some (.int .i64 x.who) := by rw [cell_at A4.out.px]; rfl
  have c23 : w2.cell? ⟨P, 23, none⟩ = some (.int .i64 x.least) := by rw [cell_at A4.out.px]; rfl
  have f22 := free_at A4.out.px 22
  have f23 := free_at A4.out.px 23
  have A5 : Hid (All (pxL P (x.asked k nm tx a d n2 who) b m n1 (min (2 * n2) m) ++ (blkC H [.int .i64 k, .string nm, .string tx, .int .i64 a, .int .i64 d] 32 :: cs)) ((w2.setCell ⟨P, 22, none⟩ (.int .i64 who)).setCell ⟨P, 23, none⟩ (.int .i64 x.seen))) := hid ((A4.out.setBlk 22 (.int .i64 who)).setBlk 23 (.int .i64 x.seen))
  have SG : Hid (∀ W, All (pxL P (x.asked k nm tx a d n2 who) b m n1 (min (2 * n2) m) ++ (blkC H [.int .i64 k, .string nm, .string tx, .int .i64 a, .int .i64 d] 32 :: cs)) W → (fun W => W.cell? ⟨P, 1, none⟩ = some (.int .i64 x.id)) W) := hid (fun W hW => by show W.cell? _ = _; rw [cell_at hW.px]; rfl)
  go_upto_region 12 with fail
  generalize (w2.setCell ⟨P, 22, none⟩ (.int .i64 who)).setCell ⟨P, 23, none⟩ (.int .i64 x.seen) = w3 at A5 ⊢
  clear c3 c22 c23 f22 f23 A4
  have A6 := hid A5.out.drew
  have p0 := hid (SG.out _ A6.out)
  refine wp_region_held_drew (S := (fun W => W.cell? ⟨P, 1, none⟩ = some (.int .i64 x.id))) (by kernel_rfl) p0.out (fun hHeld => ?_)
  refine wpAnyH_take (i := 0) (oi := { dst := some 54, op := Go.Op.move (Go.Operand.tmp 0), type := 26, pos := "proxy.go:58", after := #[], guard := none }) (v := ?_) rfl (by kernel_rfl) (by kernel_rfl) (by kernel_rfl) (fun _ _ _ h => h) (Or.inl ⟨by rfl, ?_⟩) hHeld ?_
  rotate_left
  · intro W hSw
    (try dsimp only at hSw)
    go_simp
    (try with_reducible rfl)
  (try simp only [Act.put, List.setIfInBounds_toArray, List.set_cons_zero, List.set_cons_succ])
  refine wpAnyH_take (i := 1) (oi := { dst := some 55, op := Go.Op.nilCheck (Go.Operand.tmp 54), type := 0, pos := "proxy.go:58", after := #[{ on := 0, ground := Go.Ground.data }], guard := none }) (v := ?_) rfl (by kernel_rfl) (by kernel_rfl) (by kernel_rfl) (fun _ _ _ h => h) (Or.inl ⟨by rfl, ?_⟩) hHeld ?_
  rotate_left
  · intro W hSw
    (try dsimp only at hSw)
    go_simp
    (try with_reducible rfl)
  (try simp only [Act.put, List.setIfInBounds_toArray, List.set_cons_zero, List.set_cons_succ])
  refine wpAnyH_take (i := 2) (oi := { dst := some 56, op := Go.Op.fieldAddr 74 (Go.Operand.tmp 55) 5, type := 0, pos := "proxy.go:58", after := #[{ on := 1, ground := Go.Ground.data }], guard := none }) (v := ?_) rfl (by kernel_rfl) (by kernel_rfl) (by kernel_rfl) (fun _ _ _ h => h) (Or.inl ⟨by rfl, ?_⟩) hHeld ?_
  rotate_left
  · intro W hSw
    (try dsimp only at hSw)
    go_simp
    (try with_reducible rfl)
  (try simp only [Act.put, List.setIfInBounds_toArray, List.set_cons_zero, List.set_cons_succ])
  refine wpAnyH_take (i := 3) (oi := { dst := some 57, op := Go.Op.move (Go.Operand.tmp 0), type := 26, pos := "proxy.go:58", after := #[], guard := none }) (v := ?_) rfl (by kernel_rfl) (by kernel_rfl) (by kernel_rfl) (fun _ _ _ h => h) (Or.inl ⟨by rfl, ?_⟩) hHeld ?_
  rotate_left
  · intro W hSw
    (try dsimp only at hSw)
    go_simp
    (try with_reducible rfl)
  (try simp only [Act.put, List.setIfInBounds_toArray, List.set_cons_zero, List.set_cons_succ])
  refine wpAnyH_take (i := 4) (oi := { dst := some 58, op := Go.Op.nilCheck (Go.Operand.tmp 57), type := 0, pos := "proxy.go:58", after := #[{ on := 3, ground := Go.Ground.data }], guard := none }) (v := ?_) rfl (by kernel_rfl) (by kernel_rfl) (by kernel_rfl) (fun _ _ _ h => h) (Or.inl ⟨by rfl, ?_⟩) hHeld ?_
  rotate_left
  · intro W hSw
    (try dsimp only at hSw)
    go_simp
    (try with_reducible rfl)
  (try simp only [Act.put, List.setIfInBounds_toArray, List.set_cons_zero, List.set_cons_succ])
  refine wpAnyH_take (i := 5) (oi := { dst := some 59, op := Go.Op.fieldAddr 74 (Go.Operand.tmp 58) 1, type := 0, pos := "proxy.go:58", after := #[{ on := 4, ground := Go.Ground.data }], guard := none }) (v := ?_) rfl (by kernel_rfl) (by kernel_rfl) (by kernel_rfl) (fun _ _ _ h => h) (Or.inl ⟨by rfl, ?_⟩) hHeld ?_
  rotate_left
  · intro W hSw
    (try dsimp only at hSw)
    go_simp
    (try with_reducible rfl)
  (try simp only [Act.put, List.setIfInBounds_toArray, List.set_cons_zero, List.set_cons_succ])
  refine wpAnyH_take (i := 6) (oi := { dst := some 60, op := Go.Op.load 3 (Go.Operand.tmp 59), type := 3, pos := "proxy.go:58", after := #[{ on := 5, ground := Go.Ground.data }], guard := none }) (v := ?_) rfl (by kernel_rfl) (by kernel_rfl) (by kernel_rfl) (fun _ _ _ h => h) (Or.inl ⟨by rfl, ?_⟩) hHeld ?_
  rotate_left
  · intro W hSw
    (try dsimp only at hSw)
    go_simp
    (try with_reducible rfl)
  (try simp only [Act.put, List.setIfInBounds_toArray, List.set_cons_zero, List.set_cons_succ])
  refine wpAnyH_take (i := 7) (oi := { dst := some 61, op := Go.Op.move (Go.Operand.tmp 1), type := 3, pos := "proxy.go:58", after := #[], guard := none }) (v := ?_) rfl (by kernel_rfl) (by kernel_rfl) (by kernel_rfl) (fun _ _ _ h => h) (Or.inl ⟨by rfl, ?_⟩) hHeld ?_
  rotate_left
  · intro W hSw
    (try dsimp only at hSw)
    go_simp
    (try with_reducible rfl)
  (try simp only [Act.put, List.setIfInBounds_toArray, List.set_cons_zero, List.set_cons_succ])
  refine wpAnyH_ready (rs := [8]) (by kernel_rfl) (by simp) ?_
  refine AllReadyH.cons (o := { dst := some 62, op := Go.Op.call { callee := Go.Callee.value (Go.Operand.func 32), args := #[Go.Operand.tmp 56, Go.Operand.tmp 60, Go.Operand.tmp 61], argTypes := #[72, 3, 3] }, type := 41, pos := "proxy.go:58", after := #[{ on := 2, ground := Go.Ground.data }, { on := 6, ground := Go.Ground.data }, { on := 7, ground := Go.Ground.data }], guard := none }) rfl (fun K hK => ?_) AllReadyH.nil
  go_simp
  refine (C32.out _ A6.out).mono ?_; rintro e w5 ⟨rfl, hw5⟩; have A7 := hid (A6.out.later hw5); have p1 := hid (SG.out _ A7.out); clear hw5
  refine hK.out _ _ p1.out (fun hHeld => ?_)
  clear hK K
  (try simp only [Act.put, List.setIfInBounds_toArray, List.set_cons_zero, List.set_cons_succ])
  refine wpAnyH_ready (rs := [9]) (by kernel_rfl) (by simp) ?_
  refine AllReadyH.cons (o := { dst := some 63, op := Go.Op.buildSlice 49 1 #[(0, Go.Operand.tmp 62)], type := 49, pos := "proxy.go:58", after := #[{ on := 8, ground := Go.Ground.data }], guard := none }) rfl (fun K hK => ?_) AllReadyH.nil
  rw [if_pos (by rfl)]
  refine wp_buildSlice 49 41 1 _ rfl MM.toArray ie z und49 BS.out.i BS.out.o BS.out.s BS.out.p (fill_of BS.out.f (by kernel_rfl)) ?_; have A8 := hid (A7.out.addBlk MM 41); have p2 := hid (SG.out _ A8.out.tail)
  refine hK.out _ _ p2.out (fun hHeld => ?_)
  clear hK K
  (try simp only [Act.put, List.setIfInBounds_toArray, List.set_cons_zero, List.set_cons_succ])
  refine wpAnyH_take (i := 10) (oi := { dst := some 6, op := Go.Op.assign (Go.Operand.tmp 63), type := 49, pos := "proxy.go:58", after := #[{ on := 9, ground := Go.Ground.data }, { on := 8, ground := Go.Ground.chain }, { on := 0, ground := Go.Ground.phase }, { on := 1, ground := Go.Ground.phase }, { on := 2, ground := Go.Ground.phase }, { on := 3, ground := Go.Ground.phase }, { on := 4, ground := Go.Ground.phase }, { on := 5, ground := Go.Ground.phase }, { on := 6, ground := Go.Ground.phase }, { on := 7, ground := Go.Ground.phase }, { on := 8, ground := Go.Ground.phase }, { on := 9, ground := Go.Ground.phase }], guard := none }) (v := ?_) rfl (by kernel_rfl) (by kernel_rfl) (by kernel_rfl) (fun _ _ _ h => h) (Or.inl ⟨by rfl, ?_⟩) hHeld ?_
  rotate_left
  · intro W hSw
    (try dsimp only at hSw)
    go_simp
    (try with_reducible rfl)
  (try simp only [Act.put, List.setIfInBounds_toArray, List.set_cons_zero, List.set_cons_succ])
  refine wpAnyH_take (i := 11) (oi := { dst := some 7, op := Go.Op.assign (Go.Operand.const (Go.Value.int Go.IntKind.i64 0)), type := 27, pos := "proxy.go:58", after := #[{ on := 10, ground := Go.Ground.chain }, { on := 0, ground := Go.Ground.phase }, { on := 1, ground := Go.Ground.phase }, { on := 2, ground := Go.Ground.phase }, { on := 3, ground := Go.Ground.phase }, { on := 4, ground := Go.Ground.phase }, { on := 5, ground := Go.Ground.phase }, { on := 6, ground := Go.Ground.phase }, { on := 7, ground := Go.Ground.phase }, { on := 8, ground := Go.Ground.phase }, { on := 9, ground := Go.Ground.phase }, { on := 10, ground := Go.Ground.phase }], guard := none }) (v := ?_) rfl (by kernel_rfl) (by kernel_rfl) (by kernel_rfl) (fun _ _ _ h => h) (Or.inl ⟨by rfl, ?_⟩) hHeld ?_
  rotate_left
  · intro W hSw
    (try dsimp only at hSw)
    go_simp
    (try with_reducible rfl)
  (try simp only [Act.put, List.setIfInBounds_toArray, List.set_cons_zero, List.set_cons_succ])
  refine wpAnyH_done (by kernel_rfl) ?_ _
  clear hHeld
  clear p0 p1 p2 SG C32
  obtain ⟨G, hG⟩ : ∃ G, Hid (G = w5.heap.size) := ⟨_, hid rfl⟩
  rw [← hG.out] at A8
  simp only [← hG.out]
  generalize w5.alloc (.cells MM.toArray 41) = w6 at A8 ⊢
  go_wp2
  go_ret2
  exact ⟨G, rfl, (A8.out.perm (List.Perm.cons _ (List.perm_middle (l₁ := pxL P (x.asked k nm tx a d n2 who) b m n1 (min (2 * n2) m))))).swap.tail⟩
end Go.Proofs.YteloaggebkbeeaaDoor

namespace Go.Proofs.YteloaggebkbeeaaDoor
open Go.RowKit
set_option linter.unusedVariables false

set_option maxHeartbeats 3200000 in
set_option maxRecDepth 1000000 in
/-- Two requests that are alike. -/
theorem sameMsg_rq {w : World} (f t : Int) (y : Wt) : Calls Tryd.prog 17 #[.agg (rqM f t y).cells.toArray, .agg (rqM f t y).cells.toArray] w fun e w' => e = .returned (.bool true) ∧ Below w.heap.size w w' := by
  obtain ⟨b1, hb1⟩ : ∃ b, Hid (b = w.heap.size) := ⟨_, hid rfl⟩
  obtain ⟨b2', hb2⟩ : ∃ b, Hid (b = w.heap.size + 1) := ⟨_, hid rfl⟩
  have A2 : Hid (All (blkC b1 (rqM f t y).cells 41 :: blkC b2' (rqM f t y).cells 41 :: [inC w]) ((w.alloc (.cells (rqM f t y).cells.toArray 41)).alloc (.cells (rqM f t y).cells.toArray 41))) := hid (by
    have := (((All.came w).addBlk (rqM f t y).cells 41).addBlk (rqM f t y).cells 41).swap
    simp only [World.size_alloc] at this
    rw [hb1.out, hb2.out]
    exact this)
  obtain ⟨PC, hPC⟩ : ∃ PC, Hid (PC = (rqM f t y).cells.toArray) := ⟨_, hid rfl⟩
  rw [← hPC.out] at A2 ⊢
  have s1 : (y.onm.toList == y.onm.toList) = true := by simp
  have s2 : (y.otx.toList == y.otx.toList) = true := by simp
  go_enter Tryd.func17, Tryd.ntmps17
  go_upto_region 1 with fail
  simp only [← hb1.out]
  have e2 : b1 + 1 = b2' := by rw [hb1.out, hb2.out]
  simp only [e2]
  clear e2
  generalize (w.alloc (.cells PC 41)).alloc (.cells PC 41) = w2 at A2 ⊢
  have c0 : w2.cell? ⟨b1, 0, none⟩ = some (.int .i64 1) := by rw [cell_at A2.out.1.2.1]; rfl
  have d0 : w2.cell? ⟨b2', 0, none⟩ = some (.int .i64 1) := by rw [cell_at A2.out.tail.1.2.1]; rfl
  have c1 : w2.cell? ⟨b1, 1, none⟩ = some (.int .i64 f) := by rw [cell_at A2.out.1.2.1]; rfl
  have d1 : w2.cell? ⟨b2', 1, none⟩ = some (.int .i64 f) := by rw [cell_at A2.out.tail.1.2.1]; rfl
  have c2 : w2.cell? ⟨b1, 2, none⟩ = some (.int .i64 t) := by rw [cell_at A2.out.1.2.1]; rfl
  have d2 : w2.cell? ⟨b2', 2, none⟩ = some (.int .i64 t) := by rw [cell_at A2.out.tail.1.2.1]; rfl
  have c3 : w2.cell? ⟨b1, 3, none⟩ = some (.int .i64 0) := by rw [cell_at A2.out.1.2.1]; rfl
  have d3 : w2.cell? ⟨b2', 3, none⟩ = some (.int .i64 0) := by rw [cell_at A2.out.tail.1.2.1]; rfl
  have c4 : w2.cell? ⟨b1, 4, none⟩ = some (.int .i64 0) := by rw [cell_at A2.out.1.2.1]; rfl
  have d4 : w2.cell? ⟨b2', 4, none⟩ = some (.int .i64 0) := by rw [cell_at A2.out.tail.1.2.1]; rfl
  have c5 : w2.cell? ⟨b1, 5, none⟩ = some (.int .i64 0) := by rw [cell_at A2.out.1.2.1]; rfl
  have d5 : w2.cell? ⟨b2', 5, none⟩ = some (.int .i64 0) := by rw [cell_at A2.out.tail.1.2.1]; rfl
  have c6 : w2.cell? ⟨b1, 6, none⟩ = some (.int .i64 0) := by rw [cell_at A2.out.1.2.1]; rfl
  have d6 : w2.cell? ⟨b2', 6, none⟩ = some (.int .i64 0) := by rw [cell_at A2.out.tail.1.2.1]; rfl
  have c7 : w2.cell? ⟨b1, 7, none⟩ = some (.int .i64 0) := by rw [cell_at A2.out.1.2.1]; rfl
  have d7 : w2.cell? ⟨b2', 7, none⟩ = some (.int .i64 0) := by rw [cell_at A2.out.tail.1.2.1]; rfl
  have c8 : w2.cell? ⟨b1, 8, none⟩ = some (.int .i64 y.num) := by rw [cell_at A2.out.1.2.1]; rfl
  have d8 : w2.cell? ⟨b2', 8, none⟩ = some (.int .i64 y.num) := by rw [cell_at A2.out.tail.1.2.1]; rfl
  have c9 : w2.cell? ⟨b1, 9, none⟩ = some (.bool false) := by rw [cell_at A2.out.1.2.1]; rfl
  have d9 : w2.cell? ⟨b2', 9, none⟩ = some (.bool false) := by rw [cell_at A2.out.tail.1.2.1]; rfl
  have c10 : w2.cell? ⟨b1, 10, none⟩ = some (.int .i64 y.ok) := by rw [cell_at A2.out.1.2.1]; rfl
  have d10 : w2.cell? ⟨b2', 10, none⟩ = some (.int .i64 y.ok) := by rw [cell_at A2.out.tail.1.2.1]; rfl
  have c11 : w2.cell? ⟨b1, 11, none⟩ = some (.string y.onm) := by rw [cell_at A2.out.1.2.1]; rfl
  have d11 : w2.cell? ⟨b2', 11, none⟩ = some (.string y.onm) := by rw [cell_at A2.out.tail.1.2.1]; rfl
  have c12 : w2.cell? ⟨b1, 12, none⟩ = some (.string y.otx) := by rw [cell_at A2.out.1.2.1]; rfl
  have d12 : w2.cell? ⟨b2', 12, none⟩ = some (.string y.otx) := by rw [cell_at A2.out.tail.1.2.1]; rfl
  have c13 : w2.cell? ⟨b1, 13, none⟩ = some (.int .i64 y.on) := by rw [cell_at A2.out.1.2.1]; rfl
  have d13 : w2.cell? ⟨b2', 13, none⟩ = some (.int .i64 y.on) := by rw [cell_at A2.out.tail.1.2.1]; rfl
  have c14 : w2.cell? ⟨b1, 14, none⟩ = some (.int .i64 y.om) := by rw [cell_at A2.out.1.2.1]; rfl
  have d14 : w2.cell? ⟨b2', 14, none⟩ = some (.int .i64 y.om) := by rw [cell_at A2.out.tail.1.2.1]; rfl
  have c15 : w2.cell? ⟨b1, 15, none⟩ = some (.int .i64 0) := by rw [cell_at A2.out.1.2.1]; rfl
  have d15 : w2.cell? ⟨b2', 15, none⟩ = some (.int .i64 0) := by rw [cell_at A2.out.tail.1.2.1]; rfl
  have c16 : w2.cell? ⟨b1, 16, none⟩ = some (.int .i64 0) := by rw [cell_at A2.out.1.2.1]; rfl
  have d16 : w2.cell? ⟨b2', 16, none⟩ = some (.int .i64 0) := by rw [cell_at A2.out.tail.1.2.1]; rfl
  have c17 : w2.cell? ⟨b1, 17, none⟩ = some (.slice none 0 0) := by rw [cell_at A2.out.1.2.1]; rfl
  have d17 : w2.cell? ⟨b2', 17, none⟩ = some (.slice none 0 0) := by rw [cell_at A2.out.tail.1.2.1]; rfl
  have c18 : w2.cell? ⟨b1, 18, none⟩ = some (.slice none 0 0) := by rw [cell_at A2.out.1.2.1]; rfl
  have d18 : w2.cell? ⟨b2', 18, none⟩ = some (.slice none 0 0) := by rw [cell_at A2.out.tail.1.2.1]; rfl
  have c19 : w2.cell? ⟨b1, 19, none⟩ = some (.int .i64 0) := by rw [cell_at A2.out.1.2.1]; rfl
  have d19 : w2.cell? ⟨b2', 19, none⟩ = some (.int .i64 0) := by rw [cell_at A2.out.tail.1.2.1]; rfl
  have c20 : w2.cell? ⟨b1, 20, none⟩ = some (.int .i64 0) := by rw [cell_at A2.out.1.2.1]; rfl
  have d20 : w2.cell? ⟨b2', 20, none⟩ = some (.int .i64 0) := by rw [cell_at A2.out.tail.1.2.1]; rfl
  have c21 : w2.cell? ⟨b1, 21, none⟩ = some (.slice none 0 0) := by rw [cell_at A2.out.1.2.1]; rfl
  have d21 : w2.cell? ⟨b2', 21, none⟩ = some (.slice none 0 0) := by rw [cell_at A2.out.tail.1.2.1]; rfl
  have c22 : w2.cell? ⟨b1, 22, none⟩ = some (.slice none 0 0) := by rw [cell_at A2.out.1.2.1]; rfl
  have d22 : w2.cell? ⟨b2', 22, none⟩ = some (.slice none 0 0) := by rw [cell_at A2.out.tail.1.2.1]; rfl
  go_wp2
  go_ret
  exact ⟨rfl, A2.out.into (by simp)⟩
end Go.Proofs.YteloaggebkbeeaaDoor

namespace Go.Proofs.YteloaggebkbeeaaDoor
open Go.RowKit
set_option linter.unusedVariables false

set_option maxHeartbeats 3200000 in
set_option maxRecDepth 1000000 in
theorem tick_nq {P : Nat} {x : Px} {b m n1 n2 : Int} {cs : List Comp} {w : World} (h : All (pxL P x b m n1 n2 ++ cs) w) (hr : x.rq.okL) (hq : x.qu.okL) (h1 : 1 ≤ n1) (h2 : n1 ≤ m) (h3 : m ≤ 1024) (g1 : 1 ≤ n2) (g2 : n2 ≤ m) (N : Nat) (hN : x.n = (N : Int)) (hN7 : 1 ≤ N ∧ N ≤ 7) (hw : 0 ≤ x.who) (hw2 : x.who ≤ 7) (ha : 0 ≤ x.again) (ha2 : x.again ≤ 4611686018427387904) (dr : x.rq.due = false) (dq : x.qu.due = true) :
    Calls Tryd.prog 14 #[.pointer (some ⟨P, 0, none⟩)] w fun e w' => ∃ v, e = .returned v ∧ All (msC v (([] : List Ms) ++ [asM x.id ((x.who + x.again).tmod x.n) x.least x.qu]) :: (pxL P { x with rq := x.rq.tick n1, qu := x.qu.tick n2, again := x.again + 1 } b m (x.rq.now n1 m) (x.qu.now n2 m) ++ cs)) w' := by
  have T33R : Hid (Calls Tryd.prog 33 #[.pointer (some ⟨P, 4, none⟩)] w fun e w' => e = .returned (.bool false) ∧ All (pxL P { x with rq := x.rq.tick n1 } b m (x.rq.now n1 m) n2 ++ cs) w') := hid (by have := tick33R h hr h1 h2 h3; rw [dr] at this; exact this)
  have T33Q : Hid (∀ W c, All (c :: (pxL P { x with rq := x.rq.tick n1 } b m (x.rq.now n1 m) n2 ++ cs)) W → Calls Tryd.prog 33 #[.pointer (some ⟨P, 13, none⟩)] W fun e w' => e = .returned (.bool true) ∧ All (c :: (pxL P { x with rq := x.rq.tick n1, qu := x.qu.tick n2 } b m (x.rq.now n1 m) (x.qu.now n2 m) ++ cs)) w') := hid (fun W c hW => by
    have := tick33Q (x := { x with rq := x.rq.tick n1 }) (cs := c :: cs) (hW.perm (List.perm_middle (l₁ := pxL P { x with rq := x.rq.tick n1 } b m (x.rq.now n1 m) n2)).symm) hq g1 g2 h3
    rw [show ({ x with rq := x.rq.tick n1 } : Px).qu.due = true from dq] at this
    refine this.mono ?_
    rintro e w' ⟨a1, a2⟩
    exact ⟨a1, a2.perm (List.perm_middle (l₁ := pxL P { x with rq := x.rq.tick n1, qu := x.qu.tick n2 } b m (x.rq.now n1 m) (x.qu.now n2 m)))⟩)
  have hN7 := hid hN7
  obtain ⟨to', hto⟩ : ∃ t, Hid (t = (x.who + x.again).tmod x.n) := ⟨_, hid rfl⟩
  have C34 : Hid (∀ W c, All (c :: (pxL P { x with rq := x.rq.tick n1, qu := x.qu.tick n2 } b m (x.rq.now n1 m) (x.qu.now n2 m) ++ cs)) W → Calls Tryd.prog 34 #[.pointer (some ⟨P, 13, none⟩), .int .i64 x.n] W fun e w' => e = .returned (.int .i64 to') ∧ All (c :: (pxL P { x with rq := x.rq.tick n1, qu := x.qu.tick n2, again := x.again + 1 } b m (x.rq.now n1 m) (x.qu.now n2 m) ++ cs)) w') := hid (fun W c hW => by
    have := next34 (x := { x with rq := x.rq.tick n1, qu := x.qu.tick n2 }) (cs := c :: cs) (hW.perm (List.perm_middle (l₁ := pxL P { x with rq := x.rq.tick n1, qu := x.qu.tick n2 } b m (x.rq.now n1 m) (x.qu.now n2 m))).symm) x.n (by have := hN7.out; omega) hw hw2 ha ha2
    rw [← hto.out] at this
    refine this.mono ?_
    rintro e w' ⟨a1, a2⟩
    exact ⟨a1, a2.perm (List.perm_middle (l₁ := pxL P { x with rq := x.rq.tick n1, qu := x.qu.tick n2, again := x.again + 1 } b m (x.rq.now n1 m) (x.qu.now n2 m)))⟩)
  have C32 : Hid (∀ W c, All (c :: (pxL P { x with rq := x.rq.tick n1, qu := x.qu.tick n2, again := x.again + 1 } b m (x.rq.now n1 m) (x.qu.now n2 m) ++ cs)) W → Calls Tryd.prog 32 #[.pointer (some ⟨P, 13, none⟩), .int .i64 x.id, .int .i64 to'] W fun e w' => e = .returned (.agg (asM x.id to' x.least x.qu).cells.toArray) ∧ Below W.heap.size W w') := hid (fun W c hW => by
    have := msgQ (x := { x with rq := x.rq.tick n1, qu := x.qu.tick n2, again := x.again + 1 }) (cs := c :: cs) (hW.perm (List.perm_middle (l₁ := pxL P { x with rq := x.rq.tick n1, qu := x.qu.tick n2, again := x.again + 1 } b m (x.rq.now n1 m) (x.qu.now n2 m))).symm) x.id to'
    rw [show asM x.id to' ({ x with rq := x.rq.tick n1, qu := x.qu.tick n2, again := x.again + 1 } : Px).least ({ x with rq := x.rq.tick n1, qu := x.qu.tick n2, again := x.again + 1 } : Px).qu = asM x.id to' x.least x.qu from asM_tick _ _ _ _ _] at this
    exact this)
  have SY : Hid (∀ W c, All (c :: (pxL P { x with rq := x.rq.tick n1, qu := x.qu.tick n2 } b m (x.rq.now n1 m) (x.qu.now n2 m) ++ cs)) W → (fun W => W.cell? ⟨P, 1, none⟩ = some (.int .i64 x.id) ∧ W.cell? ⟨P, 0, none⟩ = some (.int .i64 x.n)) W) := hid (fun W c hW => ⟨by rw [cell_at hW.tail.1.2.1]; rfl, by rw [cell_at hW.tail.1.2.1]; rfl⟩)
  have SZ : Hid (∀ W c, All (c :: (pxL P { x with rq := x.rq.tick n1, qu := x.qu.tick n2, again := x.again + 1 } b m (x.rq.now n1 m) (x.qu.now n2 m) ++ cs)) W → (fun W => W.cell? ⟨P, 1, none⟩ = some (.int .i64 x.id) ∧ W.cell? ⟨P, 0, none⟩ = some (.int .i64 x.n)) W) := hid (fun W c hW => ⟨by rw [cell_at hW.tail.1.2.1]; rfl, by rw [cell_at hW.tail.1.2.1]; rfl⟩)
  rw [← hto.out]
  obtain ⟨ie2, z2, bq⟩ := bs41 (asM x.id to' x.least x.qu)
  have BQ := hid bq
  obtain ⟨MQ, hMQ⟩ : ∃ MQ, Hid (MQ = (asM x.id to' x.least x.qu).cells) := ⟨_, hid rfl⟩
  rw [← hMQ.out] at BQ C32
  have hLL : Hid ((([] : List Ms)).length = 0) := hid (rfl)
  clear bq
  clear hr hq h1 h2 h3 g1 g2 hw hw2 ha ha2 dr dq
  clear h hN
  go_enter Tryd.func14, Tryd.ntmps14
  go_wp2_with fail
  refine T33R.out.mono ?_
  rintro e w1 ⟨rfl, hw1⟩
  have A2 : Hid (All (msC (.slice none 0 0) ([] : List Ms) :: (pxL P { x with rq := x.rq.tick n1 } b m (x.rq.now n1 m) n2 ++ cs)) w1) := hid hw1.addRow0
  clear hw1 T33R
  go_wp2_with fail
  refine (T33Q.out _ _ A2.out).mono ?_
  rintro e w3 ⟨rfl, hw3⟩
  have A3 := hid hw3
  clear hw3 A2
  go_upto_region 9 with fail
  have A3 := hid A3.out.drew
  have p0 := hid (SY.out _ _ A3.out)
  refine wp_region_held_drew (S := (fun W => W.cell? ⟨P, 1, none⟩ = some (.int .i64 x.id) ∧ W.cell? ⟨P, 0, none⟩ = some (.int .i64 x.n))) (by kernel_rfl) p0.out (fun hHeld => ?_)
  refine wpAnyH_take (i := 0) (oi := { dst := some 35, op := Go.Op.move (Go.Operand.tmp 3), type := 49, pos := "proxy.go:104", after := #[], guard := none }) (v := ?_) rfl (by kernel_rfl) (by kernel_rfl) (by kernel_rfl) (fun _ _ _ h => h) (Or.inl ⟨by rfl, ?_⟩) hHeld ?_
  rotate_left
  · intro W hSw
    (try dsimp only at hSw)
    go_simp
    (try with_reducible rfl)
  (try simp only [Act.put, List.setIfInBounds_toArray, List.set_cons_zero, List.set_cons_succ])
  refine wpAnyH_take (i := 1) (oi := { dst := some 36, op := Go.Op.move (Go.Operand.tmp 0), type := 26, pos := "proxy.go:104", after := #[], guard := none }) (v := ?_) rfl (by kernel_rfl) (by kernel_rfl) (by kernel_rfl) (fun _ _ _ h => h) (Or.inl ⟨by rfl, ?_⟩) hHeld ?_
  rotate_left
  · intro W hSw
    (try dsimp only at hSw)
    go_simp
    (try with_reducible rfl)
  (try simp only [Act.put, List.setIfInBounds_toArray, List.set_cons_zero, List.set_cons_succ])
  refine wpAnyH_take (i := 2) (oi := { dst := some 37, op := Go.Op.nilCheck (Go.Operand.tmp 36), type := 0, pos := "proxy.go:104", after := #[{ on := 1, ground := Go.Ground.data }], guard := none }) (v := ?_) rfl (by kernel_rfl) (by kernel_rfl) (by kernel_rfl) (fun _ _ _ h => h) (Or.inl ⟨by rfl, ?_⟩) hHeld ?_
  rotate_left
  · intro W hSw
    (try dsimp only at hSw)
    go_simp
    (try with_reducible rfl)
  (try simp only [Act.put, List.setIfInBounds_toArray, List.set_cons_zero, List.set_cons_succ])
  refine wpAnyH_take (i := 3) (oi := { dst := some 38, op := Go.Op.fieldAddr 74 (Go.Operand.tmp 37) 5, type := 0, pos := "proxy.go:104", after := #[{ on := 2, ground := Go.Ground.data }], guard := none }) (v := ?_) rfl (by kernel_rfl) (by kernel_rfl) (by kernel_rfl) (fun _ _ _ h => h) (Or.inl ⟨by rfl, ?_⟩) hHeld ?_
  rotate_left
  · intro W hSw
    (try dsimp only at hSw)
    go_simp
    (try with_reducible rfl)
  (try simp only [Act.put, List.setIfInBounds_toArray, List.set_cons_zero, List.set_cons_succ])
  refine wpAnyH_take (i := 4) (oi := { dst := some 39, op := Go.Op.move (Go.Operand.tmp 0), type := 26, pos := "proxy.go:104", after := #[], guard := none }) (v := ?_) rfl (by kernel_rfl) (by kernel_rfl) (by kernel_rfl) (fun _ _ _ h => h) (Or.inl ⟨by rfl, ?_⟩) hHeld ?_
  rotate_left
  · intro W hSw
    (try dsimp only at hSw)
    go_simp
    (try with_reducible rfl)
  (try simp only [Act.put, List.setIfInBounds_toArray, List.set_cons_zero, List.set_cons_succ])
  refine wpAnyH_take (i := 5) (oi := { dst := some 40, op := Go.Op.nilCheck (Go.Operand.tmp 39), type := 0, pos := "proxy.go:104", after := #[{ on := 4, ground := Go.Ground.data }], guard := none }) (v := ?_) rfl (by kernel_rfl) (by kernel_rfl) (by kernel_rfl) (fun _ _ _ h => h) (Or.inl ⟨by rfl, ?_⟩) hHeld ?_
  rotate_left
  · intro W hSw
    (try dsimp only at hSw)
    go_simp
    (try with_reducible rfl)
  (try simp only [Act.put, List.setIfInBounds_toArray, List.set_cons_zero, List.set_cons_succ])
  refine wpAnyH_take (i := 6) (oi := { dst := some 41, op := Go.Op.fieldAddr 74 (Go.Operand.tmp 40) 1, type := 0, pos := "proxy.go:104", after := #[{ on := 5, ground := Go.Ground.data }], guard := none }) (v := ?_) rfl (by kernel_rfl) (by kernel_rfl) (by kernel_rfl) (fun _ _ _ h => h) (Or.inl ⟨by rfl, ?_⟩) hHeld ?_
  rotate_left
  · intro W hSw
    (try dsimp only at hSw)
    go_simp
    (try with_reducible rfl)
  (try simp only [Act.put, List.setIfInBounds_toArray, List.set_cons_zero, List.set_cons_succ])
  refine wpAnyH_take (i := 7) (oi := { dst := some 42, op := Go.Op.load 3 (Go.Operand.tmp 41), type := 3, pos := "proxy.go:104", after := #[{ on := 6, ground := Go.Ground.data }], guard := none }) (v := ?_) rfl (by kernel_rfl) (by kernel_rfl) (by kernel_rfl) (fun _ _ _ h => h) (Or.inl ⟨by rfl, ?_⟩) hHeld ?_
  rotate_left
  · intro W hSw
    (try dsimp only at hSw)
    go_simp
    (try with_reducible rfl)
  (try simp only [Act.put, List.setIfInBounds_toArray, List.set_cons_zero, List.set_cons_succ])
  refine wpAnyH_take (i := 8) (oi := { dst := some 43, op := Go.Op.move (Go.Operand.tmp 0), type := 26, pos := "proxy.go:104", after := #[], guard := none }) (v := ?_) rfl (by kernel_rfl) (by kernel_rfl) (by kernel_rfl) (fun _ _ _ h => h) (Or.inl ⟨by rfl, ?_⟩) hHeld ?_
  rotate_left
  · intro W hSw
    (try dsimp only at hSw)
    go_simp
    (try with_reducible rfl)
  (try simp only [Act.put, List.setIfInBounds_toArray, List.set_cons_zero, List.set_cons_succ])
  refine wpAnyH_take (i := 9) (oi := { dst := some 44, op := Go.Op.nilCheck (Go.Operand.tmp 43), type := 0, pos := "proxy.go:104", after := #[{ on := 8, ground := Go.Ground.data }], guard := none }) (v := ?_) rfl (by kernel_rfl) (by kernel_rfl) (by kernel_rfl) (fun _ _ _ h => h) (Or.inl ⟨by rfl, ?_⟩) hHeld ?_
  rotate_left
  · intro W hSw
    (try dsimp only at hSw)
    go_simp
    (try with_reducible rfl)
  (try simp only [Act.put, List.setIfInBounds_toArray, List.set_cons_zero, List.set_cons_succ])
  refine wpAnyH_take (i := 10) (oi := { dst := some 45, op := Go.Op.fieldAddr 74 (Go.Operand.tmp 44) 5, type := 0, pos := "proxy.go:104", after := #[{ on := 9, ground := Go.Ground.data }], guard := none }) (v := ?_) rfl (by kernel_rfl) (by kernel_rfl) (by kernel_rfl) (fun _ _ _ h => h) (Or.inl ⟨by rfl, ?_⟩) hHeld ?_
  rotate_left
  · intro W hSw
    (try dsimp only at hSw)
    go_simp
    (try with_reducible rfl)
  (try simp only [Act.put, List.setIfInBounds_toArray, List.set_cons_zero, List.set_cons_succ])
  refine wpAnyH_take (i := 11) (oi := { dst := some 46, op := Go.Op.move (Go.Operand.tmp 0), type := 26, pos := "proxy.go:104", after := #[], guard := none }) (v := ?_) rfl (by kernel_rfl) (by kernel_rfl) (by kernel_rfl) (fun _ _ _ h => h) (Or.inl ⟨by rfl, ?_⟩) hHeld ?_
  rotate_left
  · intro W hSw
    (try dsimp only at hSw)
    go_simp
    (try with_reducible rfl)
  (try simp only [Act.put, List.setIfInBounds_toArray, List.set_cons_zero, List.set_cons_succ])
  refine wpAnyH_take (i := 12) (oi := { dst := some 47, op := Go.Op.nilCheck (Go.Operand.tmp 46), type := 0, pos := "proxy.go:104", after := #[{ on := 11, ground := Go.Ground.data }], guard := none }) (v := ?_) rfl (by kernel_rfl) (by kernel_rfl) (by kernel_rfl) (fun _ _ _ h => h) (Or.inl ⟨by rfl, ?_⟩) hHeld ?_
  rotate_left
  · intro W hSw
    (try dsimp only at hSw)
    go_simp
    (try with_reducible rfl)
  (try simp only [Act.put, List.setIfInBounds_toArray, List.set_cons_zero, List.set_cons_succ])
  refine wpAnyH_take (i := 13) (oi := { dst := some 48, op := Go.Op.fieldAddr 74 (Go.Operand.tmp 47) 0, type := 0, pos := "proxy.go:104", after := #[{ on := 12, ground := Go.Ground.data }], guard := none }) (v := ?_) rfl (by kernel_rfl) (by kernel_rfl) (by kernel_rfl) (fun _ _ _ h => h) (Or.inl ⟨by rfl, ?_⟩) hHeld ?_
  rotate_left
  · intro W hSw
    (try dsimp only at hSw)
    go_simp
    (try with_reducible rfl)
  (try simp only [Act.put, List.setIfInBounds_toArray, List.set_cons_zero, List.set_cons_succ])
  refine wpAnyH_take (i := 14) (oi := { dst := some 49, op := Go.Op.load 3 (Go.Operand.tmp 48), type := 3, pos := "proxy.go:104", after := #[{ on := 13, ground := Go.Ground.data }], guard := none }) (v := ?_) rfl (by kernel_rfl) (by kernel_rfl) (by kernel_rfl) (fun _ _ _ h => h) (Or.inl ⟨by rfl, ?_⟩) hHeld ?_
  rotate_left
  · intro W hSw
    (try dsimp only at hSw)
    go_simp
    (try with_reducible rfl)
  (try simp only [Act.put, List.setIfInBounds_toArray, List.set_cons_zero, List.set_cons_succ])
  refine wpAnyH_ready (rs := [15]) (by kernel_rfl) (by simp) ?_
  refine AllReadyH.cons (o := { dst := some 50, op := Go.Op.call { callee := Go.Callee.value (Go.Operand.func 34), args := #[Go.Operand.tmp 45, Go.Operand.tmp 49], argTypes := #[72, 3] }, type := 3, pos := "proxy.go:104", after := #[{ on := 10, ground := Go.Ground.data }, { on := 14, ground := Go.Ground.data }], guard := none }) rfl (fun K hK => ?_) AllReadyH.nil
  go_simp
  refine (C34.out _ _ A3.out).mono ?_; rintro e w4 ⟨rfl, hw4⟩; have A4 := hid hw4; have p1 := hid (SZ.out _ _ A4.out); clear hw4
  refine hK.out _ _ p1.out (fun hHeld => ?_)
  clear hK K
  (try simp only [Act.put, List.setIfInBounds_toArray, List.set_cons_zero, List.set_cons_succ])
  refine wpAnyH_ready (rs := [16]) (by kernel_rfl) (by simp) ?_
  refine AllReadyH.cons (o := { dst := some 51, op := Go.Op.call { callee := Go.Callee.value (Go.Operand.func 32), args := #[Go.Operand.tmp 38, Go.Operand.tmp 42, Go.Operand.tmp 50], argTypes := #[72, 3, 3] }, type := 41, pos := "proxy.go:104", after := #[{ on := 3, ground := Go.Ground.data }, { on := 7, ground := Go.Ground.data }, { on := 15, ground := Go.Ground.data }, { on := 15, ground := Go.Ground.chain }], guard := none }) rfl (fun K hK => ?_) AllReadyH.nil
  go_simp
  refine (C32.out _ _ A4.out).mono ?_; rintro e w5 ⟨rfl, hw5⟩; have A5 := hid (A4.out.later hw5); have p2 := hid (SZ.out _ _ A5.out); clear hw5
  refine hK.out _ _ p2.out (fun hHeld => ?_)
  clear hK K
  (try simp only [Act.put, List.setIfInBounds_toArray, List.set_cons_zero, List.set_cons_succ])
  refine wpAnyH_ready (rs := [17]) (by kernel_rfl) (by simp) ?_
  refine AllReadyH.cons (o := { dst := some 52, op := Go.Op.buildSlice 49 1 #[(0, Go.Operand.tmp 51)], type := 49, pos := "proxy.go:104", after := #[{ on := 16, ground := Go.Ground.data }], guard := none }) rfl (fun K hK => ?_) AllReadyH.nil
  rw [if_pos (by rfl)]
  refine wp_buildSlice 49 41 1 _ rfl MQ.toArray ie2 z2 und49 BQ.out.i BQ.out.o BQ.out.s BQ.out.p (fill_of BQ.out.f (by kernel_rfl)) ?_; have A6 := hid ((A5.out.addBlk MQ 41).swap); have p3 := hid (SZ.out _ _ (A6.out.swap.tail))
  refine hK.out _ _ p3.out (fun hHeld => ?_)
  clear hK K
  (try simp only [Act.put, List.setIfInBounds_toArray, List.set_cons_zero, List.set_cons_succ])
  rw [hMQ.out] at A6
  obtain ⟨ao, cap, w7, hr, hA7⟩ := appM A6.out (by rw [hLL.out]; have := hN7.out; omega)
  rw [hLL.out] at hr
  rw [← hMQ.out] at hr hA7
  have R := hid hr
  have A7 := hid (hA7.swap.tail)
  have p4 := hid (SZ.out _ _ A7.out)
  clear hr hA7
  refine wpAnyH_ready (rs := [18]) (by kernel_rfl) (by simp) ?_
  refine AllReadyH.cons (o := { dst := some 53, op := Go.Op.call { callee := Go.Callee.builtin Go.Builtin.append, args := #[Go.Operand.tmp 35, Go.Operand.tmp 52], argTypes := #[49, 49] }, type := 49, pos := "proxy.go:104", after := #[{ on := 0, ground := Go.Ground.data }, { on := 17, ground := Go.Ground.data }, { on := 16, ground := Go.Ground.chain }], guard := none }) rfl (fun K hK => ?_) AllReadyH.nil
  rw [if_pos (by rfl)]
  refine wp_append_run _ _ 49 rfl _ _ _ _ rfl rfl R.out ?_
  refine hK.out _ _ p4.out (fun hHeld => ?_)
  clear hK K
  (try simp only [Act.put, List.setIfInBounds_toArray, List.set_cons_zero, List.set_cons_succ])
  refine wpAnyH_take (i := 19) (oi := { dst := some 3, op := Go.Op.assign (Go.Operand.tmp 53), type := 49, pos := "proxy.go:104", after := #[{ on := 18, ground := Go.Ground.data }, { on := 18, ground := Go.Ground.chain }, { on := 0, ground := Go.Ground.phase }, { on := 1, ground := Go.Ground.phase }, { on := 2, ground := Go.Ground.phase }, { on := 3, ground := Go.Ground.phase }, { on := 4, ground := Go.Ground.phase }, { on := 5, ground := Go.Ground.phase }, { on := 6, ground := Go.Ground.phase }, { on := 7, ground := Go.Ground.phase }, { on := 8, ground := Go.Ground.phase }, { on := 9, ground := Go.Ground.phase }, { on := 10, ground := Go.Ground.phase }, { on := 11, ground := Go.Ground.phase }, { on := 12, ground := Go.Ground.phase }, { on := 13, ground := Go.Ground.phase }, { on := 14, ground := Go.Ground.phase }, { on := 15, ground := Go.Ground.phase }, { on := 16, ground := Go.Ground.phase }, { on := 17, ground := Go.Ground.phase }, { on := 18, ground := Go.Ground.phase }], guard := none }) (v := ?_) rfl (by kernel_rfl) (by kernel_rfl) (by kernel_rfl) (fun _ _ _ h => h) (Or.inl ⟨by rfl, ?_⟩) hHeld ?_
  rotate_left
  · intro W hSw
    (try dsimp only at hSw)
    go_simp
    (try with_reducible rfl)
  (try simp only [Act.put, List.setIfInBounds_toArray, List.set_cons_zero, List.set_cons_succ])
  refine wpAnyH_done (by kernel_rfl) ?_ _
  clear hHeld
  clear p0 p1 p2 p3 p4
  go_wp2
  go_ret
  exact ⟨_, rfl, A7.out⟩
end Go.Proofs.YteloaggebkbeeaaDoor

namespace Go.Proofs.YteloaggebkbeeaaDoor
open Go.RowKit
set_option linter.unusedVariables false

set_option maxHeartbeats 3200000 in
set_option maxRecDepth 1000000 in
theorem tick_rq {P : Nat} {x : Px} {b m n1 n2 : Int} {cs : List Comp} {w : World} (h : All (pxL P x b m n1 n2 ++ cs) w) (hr : x.rq.okL) (hq : x.qu.okL) (h1 : 1 ≤ n1) (h2 : n1 ≤ m) (h3 : m ≤ 1024) (g1 : 1 ≤ n2) (g2 : n2 ≤ m) (N : Nat) (hN : x.n = (N : Int)) (hN7 : 1 ≤ N ∧ N ≤ 7) (hw : 0 ≤ x.who) (hw2 : x.who ≤ 7) (ha : 0 ≤ x.again) (ha2 : x.again ≤ 4611686018427387904) (dr : x.rq.due = true) (dq : x.qu.due = true) :
    Calls Tryd.prog 14 #[.pointer (some ⟨P, 0, none⟩)] w fun e w' => ∃ v, e = .returned v ∧ All (msC v (again x N ++ [asM x.id ((x.who + x.again).tmod x.n) x.least x.qu]) :: (pxL P { x with rq := x.rq.tick n1, qu := x.qu.tick n2, again := x.again + 1 } b m (x.rq.now n1 m) (x.qu.now n2 m) ++ cs)) w' := by
  have T33R : Hid (Calls Tryd.prog 33 #[.pointer (some ⟨P, 4, none⟩)] w fun e w' => e = .returned (.bool true) ∧ All (pxL P { x with rq := x.rq.tick n1 } b m (x.rq.now n1 m) n2 ++ cs) w') := hid (by have := tick33R h hr h1 h2 h3; rw [dr] at this; exact this)
  have T33Q : Hid (∀ W c, All (c :: (pxL P { x with rq := x.rq.tick n1 } b m (x.rq.now n1 m) n2 ++ cs)) W → Calls Tryd.prog 33 #[.pointer (some ⟨P, 13, none⟩)] W fun e w' => e = .returned (.bool true) ∧ All (c :: (pxL P { x with rq := x.rq.tick n1, qu := x.qu.tick n2 } b m (x.rq.now n1 m) (x.qu.now n2 m) ++ cs)) w') := hid (fun W c hW => by
    have := tick33Q (x := { x with rq := x.rq.tick n1 }) (cs := c :: cs) (hW.perm (List.perm_middle (l₁ := pxL P { x with rq := x.rq.tick n1 } b m (x.rq.now n1 m) n2)).symm) hq g1 g2 h3
    rw [show ({ x with rq := x.rq.tick n1 } : Px).qu.due = true from dq] at this
    refine this.mono ?_
    rintro e w' ⟨a1, a2⟩
    exact ⟨a1, a2.perm (List.perm_middle (l₁ := pxL P { x with rq := x.rq.tick n1, qu := x.qu.tick n2 } b m (x.rq.now n1 m) (x.qu.now n2 m)))⟩)
  have hN7 := hid hN7
  have C25 : Hid (∀ W (k : Nat) c, All (c :: (pxL P { x with rq := x.rq.tick n1 } b m (x.rq.now n1 m) n2 ++ cs)) W → Calls Tryd.prog 25 #[.pointer (some ⟨P, 4, none⟩), .int .i64 x.id, .int .i64 (k : Int)] W fun e w' => e = .returned (.agg (rqM x.id k x.rq).cells.toArray) ∧ Below W.heap.size W w') := hid (fun W k c hW => by
    have := msgR (x := { x with rq := x.rq.tick n1 }) (cs := c :: cs) (hW.perm (List.perm_middle (l₁ := pxL P { x with rq := x.rq.tick n1 } b m (x.rq.now n1 m) n2)).symm) x.id (k : Int)
    rw [show rqM x.id (k : Int) ({ x with rq := x.rq.tick n1 } : Px).rq = rqM x.id k x.rq from rqM_tick _ _ _ _] at this
    exact this)
  have SG : Hid (∀ W c, All (c :: (pxL P { x with rq := x.rq.tick n1 } b m (x.rq.now n1 m) n2 ++ cs)) W → (fun W => W.cell? ⟨P, 1, none⟩ = some (.int .i64 x.id)) W) := hid (fun W c hW => by show W.cell? _ = _; rw [cell_at hW.tail.1.2.1]; rfl)
  obtain ⟨to', hto⟩ : ∃ t, Hid (t = (x.who + x.again).tmod x.n) := ⟨_, hid rfl⟩
  have C34 : Hid (∀ W c, All (c :: (pxL P { x with rq := x.rq.tick n1, qu := x.qu.tick n2 } b m (x.rq.now n1 m) (x.qu.now n2 m) ++ cs)) W → Calls Tryd.prog 34 #[.pointer (some ⟨P, 13, none⟩), .int .i64 x.n] W fun e w' => e = .returned (.int .i64 to') ∧ All (c :: (pxL P { x with rq := x.rq.tick n1, qu := x.qu.tick n2, again := x.again + 1 } b m (x.rq.now n1 m) (x.qu.now n2 m) ++ cs)) w') := hid (fun W c hW => by
    have := next34 (x := { x with rq := x.rq.tick n1, qu := x.qu.tick n2 }) (cs := c :: cs) (hW.perm (List.perm_middle (l₁ := pxL P { x with rq := x.rq.tick n1, qu := x.qu.tick n2 } b m (x.rq.now n1 m) (x.qu.now n2 m))).symm) x.n (by have := hN7.out; omega) hw hw2 ha ha2
    rw [← hto.out] at this
    refine this.mono ?_
    rintro e w' ⟨a1, a2⟩
    exact ⟨a1, a2.perm (List.perm_middle (l₁ := pxL P { x with rq := x.rq.tick n1, qu := x.qu.tick n2, again := x.again + 1 } b m (x.rq.now n1 m) (x.qu.now n2 m)))⟩)
  have C32 : Hid (∀ W c, All (c :: (pxL P { x with rq := x.rq.tick n1, qu := x.qu.tick n2, again := x.again + 1 } b m (x.rq.now n1 m) (x.qu.now n2 m) ++ cs)) W → Calls Tryd.prog 32 #[.pointer (some ⟨P, 13, none⟩), .int .i64 x.id, .int .i64 to'] W fun e w' => e = .returned (.agg (asM x.id to' x.least x.qu).cells.toArray) ∧ Below W.heap.size W w') := hid (fun W c hW => by
    have := msgQ (x := { x with rq := x.rq.tick n1, qu := x.qu.tick n2, again := x.again + 1 }) (cs := c :: cs) (hW.perm (List.perm_middle (l₁ := pxL P { x with rq := x.rq.tick n1, qu := x.qu.tick n2, again := x.again + 1 } b m (x.rq.now n1 m) (x.qu.now n2 m))).symm) x.id to'
    rw [show asM x.id to' ({ x with rq := x.rq.tick n1, qu := x.qu.tick n2, again := x.again + 1 } : Px).least ({ x with rq := x.rq.tick n1, qu := x.qu.tick n2, again := x.again + 1 } : Px).qu = asM x.id to' x.least x.qu from asM_tick _ _ _ _ _] at this
    exact this)
  have SY : Hid (∀ W c, All (c :: (pxL P { x with rq := x.rq.tick n1, qu := x.qu.tick n2 } b m (x.rq.now n1 m) (x.qu.now n2 m) ++ cs)) W → (fun W => W.cell? ⟨P, 1, none⟩ = some (.int .i64 x.id) ∧ W.cell? ⟨P, 0, none⟩ = some (.int .i64 x.n)) W) := hid (fun W c hW => ⟨by rw [cell_at hW.tail.1.2.1]; rfl, by rw [cell_at hW.tail.1.2.1]; rfl⟩)
  have SZ : Hid (∀ W c, All (c :: (pxL P { x with rq := x.rq.tick n1, qu := x.qu.tick n2, again := x.again + 1 } b m (x.rq.now n1 m) (x.qu.now n2 m) ++ cs)) W → (fun W => W.cell? ⟨P, 1, none⟩ = some (.int .i64 x.id) ∧ W.cell? ⟨P, 0, none⟩ = some (.int .i64 x.n)) W) := hid (fun W c hW => ⟨by rw [cell_at hW.tail.1.2.1]; rfl, by rw [cell_at hW.tail.1.2.1]; rfl⟩)
  rw [← hto.out]
  obtain ⟨ie2, z2, bq⟩ := bs41 (asM x.id to' x.least x.qu)
  have BQ := hid bq
  obtain ⟨MQ, hMQ⟩ : ∃ MQ, Hid (MQ = (asM x.id to' x.least x.qu).cells) := ⟨_, hid rfl⟩
  rw [← hMQ.out] at BQ C32
  have hLL : Hid ((again x N).length = N) := hid (again_len x N)
  clear bq
  have c0x : w.cell? ⟨P, 0, none⟩ = some (.int .i64 x.n) := by rw [cell_at h.px]; rfl
  clear hr hq h1 h2 h3 g1 g2 hw hw2 ha ha2 dr dq
  clear c0x
  have HNN := hid hN
  clear h hN
  go_enter Tryd.func14, Tryd.ntmps14
  go_wp2_with fail
  refine T33R.out.mono ?_
  rintro e w1 ⟨rfl, hw1⟩
  have A1 := hid hw1
  clear hw1 T33R
  have c0 : w1.cell? ⟨P, 0, none⟩ = some (.int .i64 (N : Int)) := by rw [cell_at A1.out.px, ← HNN.out]; rfl
  go_wp2
  go_loopw [3, 14] (fun sv iv wr => ∃ (k : Nat) (sa : Option Addr) (sc : Nat), k ≤ N ∧ sv = .slice sa k sc ∧ iv = .int .i64 (k : Int) ∧ Hid (All (rowC 41 23 (.slice sa k sc) k ((again x k).flatMap Ms.cells) :: (pxL P { x with rq := x.rq.tick n1 } b m (x.rq.now n1 m) n2 ++ cs)) wr)) (fun _ iv _ => N - (intOf iv).toNat)
  case atStart => exact ⟨0, none, 0, Nat.zero_le _, rfl, rfl, hid A1.out.addRow0⟩
  case round =>
    clear A1 c0
    obtain ⟨k, sa, sc, hk, rfl, rfl, A2⟩ := hrel
    by_cases hlt : k < N
    · have el : decide ((k : Int) < (N : Int)) = true := by simpa using hlt
      have hk7 : k ≤ 7 := by have := hN7.out; omega
      obtain ⟨ie, z, bs⟩ := bs41 (rqM x.id k x.rq)
      have BS := hid bs
      obtain ⟨MM, hMM⟩ : ∃ MM, Hid (MM = (rqM x.id k x.rq).cells) := ⟨_, hid rfl⟩
      have C25 : Hid (∀ W (j : Nat) c, All (c :: (pxL P { x with rq := x.rq.tick n1 } b m (x.rq.now n1 m) n2 ++ cs)) W → Calls Tryd.prog 25 #[.pointer (some ⟨P, 4, none⟩), .int .i64 x.id, .int .i64 (k : Int)] W fun e w' => e = .returned (.agg MM.toArray) ∧ Below W.heap.size W w') := hid (fun W j c hW => by rw [hMM.out]; exact C25.out W k c hW)
      rw [← hMM.out] at BS
      clear bs
      go_upto_region 6 with fail
      have A3 : Hid (All (msC (.slice sa k sc) (again x k) :: (pxL P { x with rq := x.rq.tick n1 } b m (x.rq.now n1 m) n2 ++ cs)) wr.drew) := hid (by unfold msC; rw [again_len]; exact A2.out.drew)
      have p0 := hid (SG.out _ _ A3.out)
      refine wp_region_held_drew (S := (fun W => W.cell? ⟨P, 1, none⟩ = some (.int .i64 x.id))) (by kernel_rfl) p0.out (fun hHeld => ?_)
      refine wpAnyH_take (i := 0) (oi := { dst := some 17, op := Go.Op.move (Go.Operand.tmp 3), type := 49, pos := "proxy.go:100", after := #[], guard := none }) (v := ?_) rfl (by kernel_rfl) (by kernel_rfl) (by kernel_rfl) (fun _ _ _ h => h) (Or.inl ⟨by rfl, ?_⟩) hHeld ?_
      rotate_left
      · intro W hSw
        (try dsimp only at hSw)
        go_simp
        (try with_reducible rfl)
      (try simp only [Act.put, List.setIfInBounds_toArray, List.set_cons_zero, List.set_cons_succ])
      refine wpAnyH_take (i := 1) (oi := { dst := some 18, op := Go.Op.move (Go.Operand.tmp 0), type := 26, pos := "proxy.go:100", after := #[], guard := none }) (v := ?_) rfl (by kernel_rfl) (by kernel_rfl) (by kernel_rfl) (fun _ _ _ h => h) (Or.inl ⟨by rfl, ?_⟩) hHeld ?_
      rotate_left
      · intro W hSw
        (try dsimp only at hSw)
        go_simp
        (try with_reducible rfl)
      (try simp only [Act.put, List.setIfInBounds_toArray, List.set_cons_zero, List.set_cons_succ])
      refine wpAnyH_take (i := 2) (oi := { dst := some 19, op := Go.Op.nilCheck (Go.Operand.tmp 18), type := 0, pos := "proxy.go:100", after := #[{ on := 1, ground := Go.Ground.data }], guard := none }) (v := ?_) rfl (by kernel_rfl) (by kernel_rfl) (by kernel_rfl) (fun _ _ _ h => h) (Or.inl ⟨by rfl, ?_⟩) hHeld ?_
      rotate_left
      · intro W hSw
        (try dsimp only at hSw)
        go_simp
        (try with_reducible rfl)
      (try simp only [Act.put, List.setIfInBounds_toArray, List.set_cons_zero, List.set_cons_succ])
      refine wpAnyH_take (i := 3) (oi := { dst := some 20, op := Go.Op.fieldAddr 74 (Go.Operand.tmp 19) 4, type := 0, pos := "proxy.go:100", after := #[{ on := 2, ground := Go.Ground.data }], guard := none }) (v := ?_) rfl (by kernel_rfl) (by kernel_rfl) (by kernel_rfl) (fun _ _ _ h => h) (Or.inl ⟨by rfl, ?_⟩) hHeld ?_
      rotate_left
      · intro W hSw
        (try dsimp only at hSw)
        go_simp
        (try with_reducible rfl)
      (try simp only [Act.put, List.setIfInBounds_toArray, List.set_cons_zero, List.set_cons_succ])
      refine wpAnyH_take (i := 4) (oi := { dst := some 21, op := Go.Op.move (Go.Operand.tmp 0), type := 26, pos := "proxy.go:100", after := #[], guard := none }) (v := ?_) rfl (by kernel_rfl) (by kernel_rfl) (by kernel_rfl) (fun _ _ _ h => h) (Or.inl ⟨by rfl, ?_⟩) hHeld ?_
      rotate_left
      · intro W hSw
        (try dsimp only at hSw)
        go_simp
        (try with_reducible rfl)
      (try simp only [Act.put, List.setIfInBounds_toArray, List.set_cons_zero, List.set_cons_succ])
      refine wpAnyH_take (i := 5) (oi := { dst := some 22, op := Go.Op.nilCheck (Go.Operand.tmp 21), type := 0, pos := "proxy.go:100", after := #[{ on := 4, ground := Go.Ground.data }], guard := none }) (v := ?_) rfl (by kernel_rfl) (by kernel_rfl) (by kernel_rfl) (fun _ _ _ h => h) (Or.inl ⟨by rfl, ?_⟩) hHeld ?_
      rotate_left
      · intro W hSw
        (try dsimp only at hSw)
        go_simp
        (try with_reducible rfl)
      (try simp only [Act.put, List.setIfInBounds_toArray, List.set_cons_zero, List.set_cons_succ])
      refine wpAnyH_take (i := 6) (oi := { dst := some 23, op := Go.Op.fieldAddr 74 (Go.Operand.tmp 22) 1, type := 0, pos := "proxy.go:100", after := #[{ on := 5, ground := Go.Ground.data }], guard := none }) (v := ?_) rfl (by kernel_rfl) (by kernel_rfl) (by kernel_rfl) (fun _ _ _ h => h) (Or.inl ⟨by rfl, ?_⟩) hHeld ?_
      rotate_left
      · intro W hSw
        (try dsimp only at hSw)
        go_simp
        (try with_reducible rfl)
      (try simp only [Act.put, List.setIfInBounds_toArray, List.set_cons_zero, List.set_cons_succ])
      refine wpAnyH_take (i := 7) (oi := { dst := some 24, op := Go.Op.load 3 (Go.Operand.tmp 23), type := 3, pos := "proxy.go:100", after := #[{ on := 6, ground := Go.Ground.data }], guard := none }) (v := ?_) rfl (by kernel_rfl) (by kernel_rfl) (by kernel_rfl) (fun _ _ _ h => h) (Or.inl ⟨by rfl, ?_⟩) hHeld ?_
      rotate_left
      · intro W hSw
        (try dsimp only at hSw)
        go_simp
        (try with_reducible rfl)
      (try simp only [Act.put, List.setIfInBounds_toArray, List.set_cons_zero, List.set_cons_succ])
      refine wpAnyH_take (i := 8) (oi := { dst := some 25, op := Go.Op.move (Go.Operand.tmp 4), type := 3, pos := "proxy.go:100", after := #[], guard := none }) (v := ?_) rfl (by kernel_rfl) (by kernel_rfl) (by kernel_rfl) (fun _ _ _ h => h) (Or.inl ⟨by rfl, ?_⟩) hHeld ?_
      rotate_left
      · intro W hSw
        (try dsimp only at hSw)
        go_simp
        (try with_reducible rfl)
      (try simp only [Act.put, List.setIfInBounds_toArray, List.set_cons_zero, List.set_cons_succ])
      refine wpAnyH_ready (rs := [9]) (by kernel_rfl) (by simp) ?_
      refine AllReadyH.cons (o := { dst := some 26, op := Go.Op.call { callee := Go.Callee.value (Go.Operand.func 25), args := #[Go.Operand.tmp 20, Go.Operand.tmp 24, Go.Operand.tmp 25], argTypes := #[70, 3, 3] }, type := 41, pos := "proxy.go:100", after := #[{ on := 3, ground := Go.Ground.data }, { on := 7, ground := Go.Ground.data }, { on := 8, ground := Go.Ground.data }], guard := none }) rfl (fun K hK => ?_) AllReadyH.nil
      go_simp
      refine (C25.out _ k _ A3.out).mono ?_; rintro e w4 ⟨rfl, hw4⟩; have A4 := hid (A3.out.later hw4); have p1 := hid (SG.out _ _ A4.out); clear hw4
      refine hK.out _ _ p1.out (fun hHeld => ?_)
      clear hK K
      (try simp only [Act.put, List.setIfInBounds_toArray, List.set_cons_zero, List.set_cons_succ])
      refine wpAnyH_ready (rs := [10]) (by kernel_rfl) (by simp) ?_
      refine AllReadyH.cons (o := { dst := some 27, op := Go.Op.buildSlice 49 1 #[(0, Go.Operand.tmp 26)], type := 49, pos := "proxy.go:100", after := #[{ on := 9, ground := Go.Ground.data }], guard := none }) rfl (fun K hK => ?_) AllReadyH.nil
      rw [if_pos (by rfl)]
      refine wp_buildSlice 49 41 1 _ rfl MM.toArray ie z und49 BS.out.i BS.out.o BS.out.s BS.out.p (fill_of BS.out.f (by kernel_rfl)) ?_; have A5 := hid ((A4.out.addBlk MM 41).swap); have p2 := hid (SG.out _ _ (A5.out.swap.tail))
      refine hK.out _ _ p2.out (fun hHeld => ?_)
      clear hK K
      (try simp only [Act.put, List.setIfInBounds_toArray, List.set_cons_zero, List.set_cons_succ])
      rw [hMM.out] at A5
      obtain ⟨ao, cap, w6, hr, hA6⟩ := appM A5.out (by rw [again_len]; omega)
      rw [again_len] at hr hA6
      rw [← again_succ] at hA6
      rw [← hMM.out] at hr hA6
      have R := hid hr
      have A6 : Hid (All (rowC 41 23 (.slice ao (k + 1) cap) (k + 1) ((again x (k + 1)).flatMap Ms.cells) :: (pxL P { x with rq := x.rq.tick n1 } b m (x.rq.now n1 m) n2 ++ cs)) w6) := hid (by have := hA6.swap.tail; unfold msC at this; rw [again_len] at this; exact this)
      have p3 := hid (SG.out _ _ A6.out)
      clear hr hA6
      refine wpAnyH_ready (rs := [11]) (by kernel_rfl) (by simp) ?_
      refine AllReadyH.cons (o := { dst := some 28, op := Go.Op.call { callee := Go.Callee.builtin Go.Builtin.append, args := #[Go.Operand.tmp 17, Go.Operand.tmp 27], argTypes := #[49, 49] }, type := 49, pos := "proxy.go:100", after := #[{ on := 0, ground := Go.Ground.data }, { on := 10, ground := Go.Ground.data }, { on := 9, ground := Go.Ground.chain }], guard := none }) rfl (fun K hK => ?_) AllReadyH.nil
      rw [if_pos (by rfl)]
      refine wp_append_run _ _ 49 rfl _ _ _ _ rfl rfl R.out ?_
      refine hK.out _ _ p3.out (fun hHeld => ?_)
      clear hK K
      (try simp only [Act.put, List.setIfInBounds_toArray, List.set_cons_zero, List.set_cons_succ])
      refine wpAnyH_take (i := 12) (oi := { dst := some 3, op := Go.Op.assign (Go.Operand.tmp 28), type := 49, pos := "proxy.go:100", after := #[{ on := 11, ground := Go.Ground.data }, { on := 11, ground := Go.Ground.chain }, { on := 0, ground := Go.Ground.phase }, { on := 1, ground := Go.Ground.phase }, { on := 2, ground := Go.Ground.phase }, { on := 3, ground := Go.Ground.phase }, { on := 4, ground := Go.Ground.phase }, { on := 5, ground := Go.Ground.phase }, { on := 6, ground := Go.Ground.phase }, { on := 7, ground := Go.Ground.phase }, { on := 8, ground := Go.Ground.phase }, { on := 9, ground := Go.Ground.phase }, { on := 10, ground := Go.Ground.phase }, { on := 11, ground := Go.Ground.phase }], guard := none }) (v := ?_) rfl (by kernel_rfl) (by kernel_rfl) (by kernel_rfl) (fun _ _ _ h => h) (Or.inl ⟨by rfl, ?_⟩) hHeld ?_
      rotate_left
      · intro W hSw
        (try dsimp only at hSw)
        go_simp
        (try with_reducible rfl)
      (try simp only [Act.put, List.setIfInBounds_toArray, List.set_cons_zero, List.set_cons_succ])
      refine wpAnyH_done (by kernel_rfl) ?_ _
      clear hHeld
      clear p0 p1 p2 p3 A5 A4 A3 A2 R
      go_wp2
      go_roundw
      case rel => exact ⟨k + 1, ao, cap, by omega, rfl, by go_num, A6⟩
      case measure => simp [intOf]; omega
    · have hkN : k = N := by omega
      have el : decide ((k : Int) < (N : Int)) = false := by simp; omega
      have A2 : Hid (All (msC (.slice sa k sc) (again x N) :: (pxL P { x with rq := x.rq.tick n1 } b m (x.rq.now n1 m) n2 ++ cs)) wr) := hid (by unfold msC; rw [again_len]; have h2 := A2.out; rw [show N = k from hkN.symm]; exact h2)
      clear hkN hk
      go_wp2_with fail
      refine (T33Q.out _ _ A2.out).mono ?_
      rintro e w3 ⟨rfl, hw3⟩
      have A3 := hid hw3
      clear hw3 A2
      go_upto_region 9 with fail
      have A3 := hid A3.out.drew
      have p0 := hid (SY.out _ _ A3.out)
      refine wp_region_held_drew (S := (fun W => W.cell? ⟨P, 1, none⟩ = some (.int .i64 x.id) ∧ W.cell? ⟨P, 0, none⟩ = some (.int .i64 x.n))) (by kernel_rfl) p0.out (fun hHeld => ?_)
      refine wpAnyH_take (i := 0) (oi := { dst := some 35, op := Go.Op.move (Go.Operand.tmp 3), type := 49, pos := "proxy.go:104", after := #[], guard := none }) (v := ?_) rfl (by kernel_rfl) (by kernel_rfl) (by kernel_rfl) (fun _ _ _ h => h) (Or.inl ⟨by rfl, ?_⟩) hHeld ?_
      rotate_left
      · intro W hSw
        (try dsimp only at hSw)
        go_simp
        (try with_reducible rfl)
      (try simp only [Act.put, List.setIfInBounds_toArray, List.set_cons_zero, List.set_cons_succ])
      refine wpAnyH_take (i := 1) (oi := { dst := some 36, op := Go.Op.move (Go.Operand.tmp 0), type := 26, pos := "proxy.go:104", after := #[], guard := none }) (v := ?_) rfl (by kernel_rfl) (by kernel_rfl) (by kernel_rfl) (fun _ _ _ h => h) (Or.inl ⟨by rfl, ?_⟩) hHeld ?_
      rotate_left
      · intro W hSw
        (try dsimp only at hSw)
        go_simp
        (try with_reducible rfl)
      (try simp only [Act.put, List.setIfInBounds_toArray, List.set_cons_zero, List.set_cons_succ])
      refine wpAnyH_take (i := 2) (oi := { dst := some 37, op := Go.Op.nilCheck (Go.Operand.tmp 36), type := 0, pos := "proxy.go:104", after := #[{ on := 1, ground := Go.Ground.data }], guard := none }) (v := ?_) rfl (by kernel_rfl) (by kernel_rfl) (by kernel_rfl) (fun _ _ _ h => h) (Or.inl ⟨by rfl, ?_⟩) hHeld ?_
      rotate_left
      · intro W hSw
        (try dsimp only at hSw)
        go_simp
        (try with_reducible rfl)
      (try simp only [Act.put, List.setIfInBounds_toArray, List.set_cons_zero, List.set_cons_succ])
      refine wpAnyH_take (i := 3) (oi := { dst := some 38, op := Go.Op.fieldAddr 74 (Go.Operand.tmp 37) 5, type := 0, pos := "proxy.go:104", after := #[{ on := 2, ground := Go.Ground.data }], guard := none }) (v := ?_) rfl (by kernel_rfl) (by kernel_rfl) (by kernel_rfl) (fun _ _ _ h => h) (Or.inl ⟨by rfl, ?_⟩) hHeld ?_
      rotate_left
      · intro W hSw
        (try dsimp only at hSw)
        go_simp
        (try with_reducible rfl)
      (try simp only [Act.put, List.setIfInBounds_toArray, List.set_cons_zero, List.set_cons_succ])
      refine wpAnyH_take (i := 4) (oi := { dst := some 39, op := Go.Op.move (Go.Operand.tmp 0), type := 26, pos := "proxy.go:104", after := #[], guard := none }) (v := ?_) rfl (by kernel_rfl) (by kernel_rfl) (by kernel_rfl) (fun _ _ _ h => h) (Or.inl ⟨by rfl, ?_⟩) hHeld ?_
      rotate_left
      · intro W hSw
        (try dsimp only at hSw)
        go_simp
        (try with_reducible rfl)
      (try simp only [Act.put, List.setIfInBounds_toArray, List.set_cons_zero, List.set_cons_succ])
      refine wpAnyH_take (i := 5) (oi := { dst := some 40, op := Go.Op.nilCheck (Go.Operand.tmp 39), type := 0, pos := "proxy.go:104", after := #[{ on := 4, ground := Go.Ground.data }], guard := none }) (v := ?_) rfl (by kernel_rfl) (by kernel_rfl) (by kernel_rfl) (fun _ _ _ h => h) (Or.inl ⟨by rfl, ?_⟩) hHeld ?_
      rotate_left
      · intro W hSw
        (try dsimp only at hSw)
        go_simp
        (try with_reducible rfl)
      (try simp only [Act.put, List.setIfInBounds_toArray, List.set_cons_zero, List.set_cons_succ])
      refine wpAnyH_take (i := 6) (oi := { dst := some 41, op := Go.Op.fieldAddr 74 (Go.Operand.tmp 40) 1, type := 0, pos := "proxy.go:104", after := #[{ on := 5, ground := Go.Ground.data }], guard := none }) (v := ?_) rfl (by kernel_rfl) (by kernel_rfl) (by kernel_rfl) (fun _ _ _ h => h) (Or.inl ⟨by rfl, ?_⟩) hHeld ?_
      rotate_left
      · intro W hSw
        (try dsimp only at hSw)
        go_simp
        (try with_reducible rfl)
      (try simp only [Act.put, List.setIfInBounds_toArray, List.set_cons_zero, List.set_cons_succ])
      refine wpAnyH_take (i := 7) (oi := { dst := some 42, op := Go.Op.load 3 (Go.Operand.tmp 41), type := 3, pos := "proxy.go:104", after := #[{ on := 6, ground := Go.Ground.data }], guard := none }) (v := ?_) rfl (by kernel_rfl) (by kernel_rfl) (by kernel_rfl) (fun _ _ _ h => h) (Or.inl ⟨by rfl, ?_⟩) hHeld ?_
      rotate_left
      · intro W hSw
        (try dsimp only at hSw)
        go_simp
        (try with_reducible rfl)
      (try simp only [Act.put, List.setIfInBounds_toArray, List.set_cons_zero, List.set_cons_succ])
      refine wpAnyH_take (i := 8) (oi := { dst := some 43, op := Go.Op.move (Go.Operand.tmp 0), type := 26, pos := "proxy.go:104", after := #[], guard := none }) (v := ?_) rfl (by kernel_rfl) (by kernel_rfl) (by kernel_rfl) (fun _ _ _ h => h) (Or.inl ⟨by rfl, ?_⟩) hHeld ?_
      rotate_left
      · intro W hSw
        (try dsimp only at hSw)
        go_simp
        (try with_reducible rfl)
      (try simp only [Act.put, List.setIfInBounds_toArray, List.set_cons_zero, List.set_cons_succ])
      refine wpAnyH_take (i := 9) (oi := { dst := some 44, op := Go.Op.nilCheck (Go.Operand.tmp 43), type := 0, pos := "proxy.go:104", after := #[{ on := 8, ground := Go.Ground.data }], guard := none }) (v := ?_) rfl (by kernel_rfl) (by kernel_rfl) (by kernel_rfl) (fun _ _ _ h => h) (Or.inl ⟨by rfl, ?_⟩) hHeld ?_
      rotate_left
      · intro W hSw
        (try dsimp only at hSw)
        go_simp
        (try with_reducible rfl)
      (try simp only [Act.put, List.setIfInBounds_toArray, List.set_cons_zero, List.set_cons_succ])
      refine wpAnyH_take (i := 10) (oi := { dst := some 45, op := Go.Op.fieldAddr 74 (Go.Operand.tmp 44) 5, type := 0, pos := "proxy.go:104", after := #[{ on := 9, ground := Go.Ground.data }], guard := none }) (v := ?_) rfl (by kernel_rfl) (by kernel_rfl) (by kernel_rfl) (fun _ _ _ h => h) (Or.inl ⟨by rfl, ?_⟩) hHeld ?_
      rotate_left
      · intro W hSw
        (try dsimp only at hSw)
        go_simp
        (try with_reducible rfl)
      (try simp only [Act.put, List.setIfInBounds_toArray, List.set_cons_zero, List.set_cons_succ])
      refine wpAnyH_take (i := 11) (oi := { dst := some 46, op := Go.Op.move (Go.Operand.tmp 0), type := 26, pos := "proxy.go:104", after := #[], guard := none }) (v := ?_) rfl (by kernel_rfl) (by kernel_rfl) (by kernel_rfl) (fun _ _ _ h => h) (Or.inl ⟨by rfl, ?_⟩) hHeld ?_
      rotate_left
      · intro W hSw
        (try dsimp only at hSw)
        go_simp
        (try with_reducible rfl)
      (try simp only [Act.put, List.setIfInBounds_toArray, List.set_cons_zero, List.set_cons_succ])
      refine wpAnyH_take (i := 12) (oi := { dst := some 47, op := Go.Op.nilCheck (Go.Operand.tmp 46), type := 0, pos := "proxy.go:104", after := #[{ on := 11, ground := Go.Ground.data }], guard := none }) (v := ?_) rfl (by kernel_rfl) (by kernel_rfl) (by kernel_rfl) (fun _ _ _ h => h) (Or.inl ⟨by rfl, ?_⟩) hHeld ?_
      rotate_left
      · intro W hSw
        (try dsimp only at hSw)
        go_simp
        (try with_reducible rfl)
      (try simp only [Act.put, List.setIfInBounds_toArray, List.set_cons_zero, List.set_cons_succ])
      refine wpAnyH_take (i := 13) (oi := { dst := some 48, op := Go.Op.fieldAddr 74 (Go.Operand.tmp 47) 0, type := 0, pos := "proxy.go:104", after := #[{ on := 12, ground := Go.Ground.data }], guard := none }) (v := ?_) rfl (by kernel_rfl) (by kernel_rfl) (by kernel_rfl) (fun _ _ _ h => h) (Or.inl ⟨by rfl, ?_⟩) hHeld ?_
      rotate_left
      · intro W hSw
        (try dsimp only at hSw)
        go_simp
        (try with_reducible rfl)
      (try simp only [Act.put, List.setIfInBounds_toArray, List.set_cons_zero, List.set_cons_succ])
      refine wpAnyH_take (i := 14) (oi := { dst := some 49, op := Go.Op.load 3 (Go.Operand.tmp 48), type := 3, pos := "proxy.go:104", after := #[{ on := 13, ground := Go.Ground.data }], guard := none }) (v := ?_) rfl (by kernel_rfl) (by kernel_rfl) (by kernel_rfl) (fun _ _ _ h => h) (Or.inl ⟨by rfl, ?_⟩) hHeld ?_
      rotate_left
      · intro W hSw
        (try dsimp only at hSw)
        go_simp
        (try with_reducible rfl)
      (try simp only [Act.put, List.setIfInBounds_toArray, List.set_cons_zero, List.set_cons_succ])
      refine wpAnyH_ready (rs := [15]) (by kernel_rfl) (by simp) ?_
      refine AllReadyH.cons (o := { dst := some 50, op := Go.Op.call { callee := Go.Callee.value (Go.Operand.func 34), args := #[Go.Operand.tmp 45, Go.Operand.tmp 49], argTypes := #[72, 3] }, type := 3, pos := "proxy.go:104", after := #[{ on := 10, ground := Go.Ground.data }, { on := 14, ground := Go.Ground.data }], guard := none }) rfl (fun K hK => ?_) AllReadyH.nil
      go_simp
      refine (C34.out _ _ A3.out).mono ?_; rintro e w4 ⟨rfl, hw4⟩; have A4 := hid hw4; have p1 := hid (SZ.out _ _ A4.out); clear hw4
      refine hK.out _ _ p1.out (fun hHeld => ?_)
      clear hK K
      (try simp only [Act.put, List.setIfInBounds_toArray, List.set_cons_zero, List.set_cons_succ])
      refine wpAnyH_ready (rs := [16]) (by kernel_rfl) (by simp) ?_
      refine AllReadyH.cons (o := { dst := some 51, op := Go.Op.call { callee := Go.Callee.value (Go.Operand.func 32), args := #[Go.Operand.tmp 38, Go.Operand.tmp 42, Go.Operand.tmp 50], argTypes := #[72, 3, 3] }, type := 41, pos := "proxy.go:104", after := #[{ on := 3, ground := Go.Ground.data }, { on := 7, ground := Go.Ground.data }, { on := 15, ground := Go.Ground.data }, { on := 15, ground := Go.Ground.chain }], guard := none }) rfl (fun K hK => ?_) AllReadyH.nil
      go_simp
      refine (C32.out _ _ A4.out).mono ?_; rintro e w5 ⟨rfl, hw5⟩; have A5 := hid (A4.out.later hw5); have p2 := hid (SZ.out _ _ A5.out); clear hw5
      refine hK.out _ _ p2.out (fun hHeld => ?_)
      clear hK K
      (try simp only [Act.put, List.setIfInBounds_toArray, List.set_cons_zero, List.set_cons_succ])
      refine wpAnyH_ready (rs := [17]) (by kernel_rfl) (by simp) ?_
      refine AllReadyH.cons (o := { dst := some 52, op := Go.Op.buildSlice 49 1 #[(0, Go.Operand.tmp 51)], type := 49, pos := "proxy.go:104", after := #[{ on := 16, ground := Go.Ground.data }], guard := none }) rfl (fun K hK => ?_) AllReadyH.nil
      rw [if_pos (by rfl)]
      refine wp_buildSlice 49 41 1 _ rfl MQ.toArray ie2 z2 und49 BQ.out.i BQ.out.o BQ.out.s BQ.out.p (fill_of BQ.out.f (by kernel_rfl)) ?_; have A6 := hid ((A5.out.addBlk MQ 41).swap); have p3 := hid (SZ.out _ _ (A6.out.swap.tail))
      refine hK.out _ _ p3.out (fun hHeld => ?_)
      clear hK K
      (try simp only [Act.put, List.setIfInBounds_toArray, List.set_cons_zero, List.set_cons_succ])
      rw [hMQ.out] at A6
      obtain ⟨ao, cap, w7, hr, hA7⟩ := appM A6.out (by rw [hLL.out]; have := hN7.out; omega)
      rw [hLL.out] at hr
      (try rw [hLL.out] at hA7)
      rw [← hMQ.out] at hr hA7
      have R := hid hr
      have A7 := hid (hA7.swap.tail)
      have p4 := hid (SZ.out _ _ A7.out)
      clear hr hA7
      refine wpAnyH_ready (rs := [18]) (by kernel_rfl) (by simp) ?_
      refine AllReadyH.cons (o := { dst := some 53, op := Go.Op.call { callee := Go.Callee.builtin Go.Builtin.append, args := #[Go.Operand.tmp 35, Go.Operand.tmp 52], argTypes := #[49, 49] }, type := 49, pos := "proxy.go:104", after := #[{ on := 0, ground := Go.Ground.data }, { on := 17, ground := Go.Ground.data }, { on := 16, ground := Go.Ground.chain }], guard := none }) rfl (fun K hK => ?_) AllReadyH.nil
      rw [if_pos (by rfl)]
      refine wp_append_run _ _ 49 rfl _ _ _ _ rfl rfl R.out ?_
      refine hK.out _ _ p4.out (fun hHeld => ?_)
      clear hK K
      (try simp only [Act.put, List.setIfInBounds_toArray, List.set_cons_zero, List.set_cons_succ])
      refine wpAnyH_take (i := 19) (oi := { dst := some 3, op := Go.Op.assign (Go.Operand.tmp 53), type := 49, pos := "proxy.go:104", after := #[{ on := 18, ground := Go.Ground.data }, { on := 18, ground := Go.Ground.chain }, { on := 0, ground := Go.Ground.phase }, { on := 1, ground := Go.Ground.phase }, { on := 2, ground := Go.Ground.phase }, { on := 3, ground := Go.Ground.phase }, { on := 4, ground := Go.Ground.phase }, { on := 5, ground := Go.Ground.phase }, { on := 6, ground := Go.Ground.phase }, { on := 7, ground := Go.Ground.phase }, { on := 8, ground := Go.Ground.phase }, { on := 9, ground := Go.Ground.phase }, { on := 10, ground := Go.Ground.phase }, { on := 11, ground := Go.Ground.phase }, { on := 12, ground := Go.Ground.phase }, { on := 13, ground := Go.Ground.phase }, { on := 14, ground := Go.Ground.phase }, { on := 15, ground := Go.Ground.phase }, { on := 16, ground := Go.Ground.phase }, { on := 17, ground := Go.Ground.phase }, { on := 18, ground := Go.Ground.phase }], guard := none }) (v := ?_) rfl (by kernel_rfl) (by kernel_rfl) (by kernel_rfl) (fun _ _ _ h => h) (Or.inl ⟨by rfl, ?_⟩) hHeld ?_
      rotate_left
      · intro W hSw
        (try dsimp only at hSw)
        go_simp
        (try with_reducible rfl)
      (try simp only [Act.put, List.setIfInBounds_toArray, List.set_cons_zero, List.set_cons_succ])
      refine wpAnyH_done (by kernel_rfl) ?_ _
      clear hHeld
      clear p0 p1 p2 p3 p4
      go_wp2
      go_ret
      exact ⟨_, rfl, A7.out⟩
end Go.Proofs.YteloaggebkbeeaaDoor

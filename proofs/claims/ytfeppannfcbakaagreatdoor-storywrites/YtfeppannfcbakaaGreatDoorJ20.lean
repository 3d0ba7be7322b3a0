import Derived.Test.YtfeppannfcbakaaGreatDoorJ19
import Derived.Test.YtfeppannfcbakaaGreatDoorEw1
import Derived.Test.YtfeppannfcbakaaGreatDoorJ8
namespace Go.Proofs.YtfeppannfcbakaaGreatDoor
open Go.RowKit
set_option linter.unusedVariables false
set_option maxRecDepth 100000

theorem ret_op {fn : Func} (hf : fn.results = #[.cell 2 24, .tmp 3]) {R : Ending → World → Prop} {a : Act} {w : World} {b : Nat} {EC : List Value} {v : Value} (ht : a.tmps.getD 2 undef = ptr b) (h3 : a.tmps.getD 3 undef = v) (hg : w.heap[b]? = some (.cells EC.toArray 24 (0, 0))) (hs : EC.length = 5) (hd : a.defers = []) (hR : R (.returned (.tuple #[.agg EC.toArray, v])) w) : bodyPost Tryz.prog fn R .ret a w := by
  refine bodyPost_ret (v := .tuple #[.agg EC.toArray, v]) ?_ hd hR
  have hp : a.tmps[2]?.getD undef = ptr b := by rw [← ht]; simp
  have hp3 : a.tmps[3]?.getD undef = v := by rw [← h3]; simp
  simp [results, hf, hp, hp3, asAddr, run_loadVar_row w b 24 24 EC.toArray (0, 0) _ hg Tryz.underlying24 rfl (by rw [List.size_toArray, hs]; kernel_rfl)]
def Ev.opL (e : Ev) : List Value := [.int .i64 e.ok, .string ⟨e.onm.toArray⟩, .string ⟨e.otx.toArray⟩, .int .i64 e.on, .int .i64 e.om]
def Ev.enL (e : Ev) : List Value := [.int .i64 e.pk, .string ⟨e.pnm.toArray⟩, .string ⟨e.ptx.toArray⟩, .int .i64 e.pn, .int .i64 e.pm]
def zoL : List Value := [.int .i64 0, .string ⟨#[]⟩, .string ⟨#[]⟩, .int .i64 0, .int .i64 0]
set_option maxHeartbeats 6400000 in
set_option maxRecDepth 1000000 in
theorem opOf_any (e : Ev) {cs : List Comp} {w : World} (A : All cs w) : Calls Tryz.prog 63 #[.agg e.cells.toArray] w fun r w' => r = .returned (.tuple #[.agg (if e.k = 6 then e.enL else e.opL).toArray, .bool (decide (e.k = 6 ∨ e.k = 2 ∨ e.k = 3))]) ∧ All cs w' := by
  generalize hRL : (if e.k = 6 then e.enL else e.opL) = RL
  generalize hBB : decide (e.k = 6 ∨ e.k = 2 ∨ e.k = 3) = BB
  have HRL := hid hRL
  have HBB := hid hBB
  clear hRL hBB
  have A0 := hid ((A.addBlk e.cells 36).addBlk zoL 24)
  rw [alloc_size] at A0
  have I24 : Hid ((Tryz.prog.info? 24).map (·.size) = some 5) := hid (by kernel_rfl)
  have RO : Hid (∀ W Z, All (blkC (w.heap.size + 1) Z 24 :: blkC w.heap.size e.cells 36 :: cs) W → W.rangeAt w.heap.size 7 e.opL ∧ W.cell? ⟨w.heap.size, 0, none⟩ = some (.int .i64 e.k)) := hid (fun W Z hW => ⟨range_in hW (List.mem_cons_of_mem _ (List.mem_cons_self)) (fun j v hv => by
    have hj : j < 5 := (List.getElem?_eq_some_iff.1 hv).1
    obtain rfl | rfl | rfl | rfl | rfl : j = 0 ∨ j = 1 ∨ j = 2 ∨ j = 3 ∨ j = 4 := by omega
    all_goals exact hv), cell_in hW (List.mem_cons_of_mem _ (List.mem_cons_self)) rfl⟩)
  have RP : Hid (∀ W Z, All (blkC (w.heap.size + 1) Z 24 :: blkC w.heap.size e.cells 36 :: cs) W → W.rangeAt w.heap.size 14 e.enL) := hid (fun W Z hW => range_in hW (List.mem_cons_of_mem _ (List.mem_cons_self)) (fun j v hv => by
    have hj : j < 5 := (List.getElem?_eq_some_iff.1 hv).1
    obtain rfl | rfl | rfl | rfl | rfl : j = 0 ∨ j = 1 ∨ j = 2 ∨ j = 3 ∨ j = 4 := by omega
    all_goals exact hv))
  have TH : Hid (∀ W ds, All (blkC (w.heap.size + 1) zoL 24 :: ds) W → W.there (w.heap.size + 1) 0 5) := hid (fun W ds hW => blk_there hW (by decide))
  have SO : Hid (∀ W ds, All (blkC (w.heap.size + 1) zoL 24 :: ds) W → All (blkC (w.heap.size + 1) e.opL 24 :: ds) (W.setCells (w.heap.size + 1) 0 e.opL)) := hid (fun W ds hW => ((((hW.setBlk 0 (.int .i64 e.ok)).setBlk 1 (.string ⟨e.onm.toArray⟩)).setBlk 2 (.string ⟨e.otx.toArray⟩)).setBlk 3 (.int .i64 e.on)).setBlk 4 (.int .i64 e.om))
  have SP : Hid (∀ W ds, All (blkC (w.heap.size + 1) zoL 24 :: ds) W → All (blkC (w.heap.size + 1) e.enL 24 :: ds) (W.setCells (w.heap.size + 1) 0 e.enL)) := hid (fun W ds hW => ((((hW.setBlk 0 (.int .i64 e.pk)).setBlk 1 (.string ⟨e.pnm.toArray⟩)).setBlk 2 (.string ⟨e.ptx.toArray⟩)).setBlk 3 (.int .i64 e.pn)).setBlk 4 (.int .i64 e.pm))
  have OO : Hid (e.opL.toArray.all (·.oneCell') = true ∧ e.enL.toArray.all (·.oneCell') = true) := hid ⟨by kernel_rfl, by kernel_rfl⟩
  have ZZ : Hid (e.opL.length = 5 ∧ e.enL.length = 5) := hid ⟨rfl, rfl⟩
  clear A
  generalize hOL : e.opL = OL at *
  generalize hPL : e.enL = PL at *
  clear hOL hPL
  have I24o : Hid ((Tryz.prog.info? 24).map (·.size) = some OL.toArray.size) := hid (by rw [List.size_toArray, ZZ.out.1]; exact I24.out)
  have I24p : Hid ((Tryz.prog.info? 24).map (·.size) = some PL.toArray.size) := hid (by rw [List.size_toArray, ZZ.out.2]; exact I24.out)
  have J24o : Hid ((Tryz.prog.info? 24).map (·.size) = some OL.length) := hid (by rw [ZZ.out.1]; exact I24.out)
  have J24p : Hid ((Tryz.prog.info? 24).map (·.size) = some PL.length) := hid (by rw [ZZ.out.2]; exact I24.out)
  have THo : Hid (∀ W ds, All (blkC (w.heap.size + 1) zoL 24 :: ds) W → W.there (w.heap.size + 1) 0 OL.toArray.size) := hid (fun W ds hW => by rw [show OL.toArray.size = 5 from by rw [List.size_toArray]; exact ZZ.out.1]; exact TH.out W ds hW)
  have THp : Hid (∀ W ds, All (blkC (w.heap.size + 1) zoL 24 :: ds) W → W.there (w.heap.size + 1) 0 PL.toArray.size) := hid (fun W ds hW => by rw [show PL.toArray.size = 5 from by rw [List.size_toArray]; exact ZZ.out.2]; exact TH.out W ds hW)
  generalize e.cells = EC at *
  go_enter Tryz.func63, Tryz.ntmps63
  go_upto_region 1 with fail
  change Code.wp _ _ _ _ ((w.alloc (.cells EC.toArray 36)).alloc (.cells zoL.toArray 24))
  generalize (w.alloc (.cells EC.toArray 36)).alloc (.cells zoL.toArray 24) = w0 at *
  obtain ⟨r0, c0⟩ := RO.out _ _ A0.out
  have R0 := hid r0
  clear r0
  by_cases hk : e.k = 6
  · rw [hk] at c0
    have E6 : Hid (RL = PL ∧ BB = true) := hid ⟨by rw [← HRL.out, if_pos hk], by rw [← HBB.out]; simp [hk]⟩
    have Rp := hid (RP.out _ _ A0.out)
    have K1 := hid (SP.out _ _ A0.out)
    have T1 := hid (THp.out _ _ A0.out)
    go_wp2_with (first | (refine wpList_load_mid rfl 24 _ rfl w.heap.size 14 rfl PL _ Rp.out Tryz.underlying24 rfl J24p.out ?_) | (refine wpList_store_mid rfl 24 _ _ rfl (w.heap.size + 1) 0 PL.toArray rfl rfl T1.out I24p.out OO.out.2 ?_; rw [List.toList_toArray]))
    exact ret_op rfl rfl rfl K1.out.1.2.1 ZZ.out.2 rfl ⟨by rw [E6.out.1, E6.out.2]; rfl, K1.out.tail.tail⟩
  · have n6 : (e.k == 6) = false := by simpa using hk
    have EI : Hid (RL = OL) := hid (by rw [← HRL.out, if_neg hk])
    by_cases h2 : e.k = 2
    · have E6 : Hid (BB = true) := hid (by rw [← HBB.out]; simp [h2])
      rw [h2] at c0 RO
      clear n6
      go_upto_region 3 with fail
      have K0 := hid A0.out.drew
      have P0 := hid (RO.out _ _ K0.out)
      refine wp_region_held_drew (S := (fun W => W.rangeAt w.heap.size 7 OL ∧ W.cell? ⟨w.heap.size, 0, none⟩ = some (.int .i64 2))) (by kernel_rfl) P0.out (fun hHeld => ?_)
      generalize World.drew _ = wd at *
      have K1 := hid (SO.out _ _ K0.out)
      have T1 := hid (THo.out _ _ K0.out)
      have P1 := hid (RO.out _ _ K1.out)
      refine wpAnyH_take (i := 0) (oi := { dst := Option.some 10, op := Go.Op.fieldAddr 36 (Go.Operand.tmp 1) 7, type := 0, pos := "ref.go:126", after := #[], guard := Option.none }) (v := ?_) rfl (by kernel_rfl) (by kernel_rfl) (by kernel_rfl) (fun _ _ _ h => h) (Or.inl ⟨by rfl, ?_⟩) hHeld ?_
      rotate_left
      · intro W hSw
        have s0 := hSw.2
        go_simp
        (try with_reducible rfl)
      (try simp only [Act.put, List.setIfInBounds_toArray, List.set_cons_zero, List.set_cons_succ])
      refine wpAnyH_take (i := 1) (oi := { dst := Option.some 11, op := Go.Op.load 24 (Go.Operand.tmp 10), type := 24, pos := "ref.go:126", after := #[{ on := 0, ground := Go.Ground.data }], guard := Option.none }) (v := .agg OL.toArray) rfl (by kernel_rfl) (by kernel_rfl) (by kernel_rfl) (fun _ _ _ h => h) (yieldsIf_load_mid (by rfl) 24 (.tmp 10) rfl w.heap.size 7 rfl OL _ (fun W hSw => hSw.1) Tryz.underlying24 rfl J24o.out) hHeld ?_
      (try simp only [Act.put, List.setIfInBounds_toArray, List.set_cons_zero, List.set_cons_succ])
      refine wpAnyH_take (i := 2) (oi := { dst := Option.some 12, op := Go.Op.fieldAddr 36 (Go.Operand.tmp 1) 0, type := 0, pos := "ref.go:126", after := #[], guard := Option.none }) (v := ?_) rfl (by kernel_rfl) (by kernel_rfl) (by kernel_rfl) (fun _ _ _ h => h) (Or.inl ⟨by rfl, ?_⟩) hHeld ?_
      rotate_left
      · intro W hSw
        have s0 := hSw.2
        go_simp
        (try with_reducible rfl)
      (try simp only [Act.put, List.setIfInBounds_toArray, List.set_cons_zero, List.set_cons_succ])
      refine wpAnyH_take (i := 3) (oi := { dst := Option.some 13, op := Go.Op.load 3 (Go.Operand.tmp 12), type := 3, pos := "ref.go:126", after := #[{ on := 2, ground := Go.Ground.data }], guard := Option.none }) (v := ?_) rfl (by kernel_rfl) (by kernel_rfl) (by kernel_rfl) (fun _ _ _ h => h) (Or.inl ⟨by rfl, ?_⟩) hHeld ?_
      rotate_left
      · intro W hSw
        have s0 := hSw.2
        go_simp
        (try with_reducible rfl)
      (try simp only [Act.put, List.setIfInBounds_toArray, List.set_cons_zero, List.set_cons_succ])
      refine wpAnyH_take (i := 4) (oi := { dst := Option.some 14, op := Go.Op.binOp Go.BinOp.eql 3 (Go.Operand.tmp 13) (Go.Operand.const (Go.Value.int Go.IntKind.i64 2)) 3, type := 4, pos := "ref.go:126", after := #[{ on := 3, ground := Go.Ground.data }], guard := Option.none }) (v := ?_) rfl (by kernel_rfl) (by kernel_rfl) (by kernel_rfl) (fun _ _ _ h => h) (Or.inl ⟨by rfl, ?_⟩) hHeld ?_
      rotate_left
      · intro W hSw
        have s0 := hSw.2
        go_simp
        (try with_reducible rfl)
      (try simp only [Act.put, List.setIfInBounds_toArray, List.set_cons_zero, List.set_cons_succ])
      refine wpAnyH_take (i := 5) (oi := { dst := Option.some 15, op := Go.Op.move (Go.Operand.tmp 14), type := 4, pos := "ref.go:126", after := #[{ on := 4, ground := Go.Ground.data }], guard := Option.none }) (v := ?_) rfl (by kernel_rfl) (by kernel_rfl) (by kernel_rfl) (fun _ _ _ h => h) (Or.inl ⟨by rfl, ?_⟩) hHeld ?_
      rotate_left
      · intro W hSw
        have s0 := hSw.2
        go_simp
        (try with_reducible rfl)
      (try simp only [Act.put, List.setIfInBounds_toArray, List.set_cons_zero, List.set_cons_succ])
      refine wpAnyH_take (i := 6) (oi := { dst := Option.some 16, op := Go.Op.fieldAddr 36 (Go.Operand.tmp 1) 0, type := 0, pos := "ref.go:126", after := #[{ on := 5, ground := Go.Ground.guard }, { on := 10, ground := Go.Ground.gcOnly Go.Departure.lateStores }], guard := Option.some (5, Bool.false) }) (v := undef) rfl (by kernel_rfl) (by kernel_rfl) (by kernel_rfl) (fun _ _ _ h => h) (Or.inr ⟨by rfl, rfl⟩) hHeld ?_
      (try simp only [Act.put, List.setIfInBounds_toArray, List.set_cons_zero, List.set_cons_succ])
      refine wpAnyH_take (i := 7) (oi := { dst := Option.some 17, op := Go.Op.load 3 (Go.Operand.tmp 16), type := 3, pos := "ref.go:126", after := #[{ on := 6, ground := Go.Ground.data }, { on := 5, ground := Go.Ground.guard }, { on := 10, ground := Go.Ground.gcOnly Go.Departure.lateStores }], guard := Option.some (5, Bool.false) }) (v := undef) rfl (by kernel_rfl) (by kernel_rfl) (by kernel_rfl) (fun _ _ _ h => h) (Or.inr ⟨by rfl, rfl⟩) hHeld ?_
      (try simp only [Act.put, List.setIfInBounds_toArray, List.set_cons_zero, List.set_cons_succ])
      refine wpAnyH_take (i := 8) (oi := { dst := Option.some 18, op := Go.Op.binOp Go.BinOp.eql 3 (Go.Operand.tmp 17) (Go.Operand.const (Go.Value.int Go.IntKind.i64 3)) 3, type := 4, pos := "ref.go:126", after := #[{ on := 7, ground := Go.Ground.data }, { on := 5, ground := Go.Ground.guard }, { on := 10, ground := Go.Ground.gcOnly Go.Departure.lateStores }], guard := Option.some (5, Bool.false) }) (v := undef) rfl (by kernel_rfl) (by kernel_rfl) (by kernel_rfl) (fun _ _ _ h => h) (Or.inr ⟨by rfl, rfl⟩) hHeld ?_
      (try simp only [Act.put, List.setIfInBounds_toArray, List.set_cons_zero, List.set_cons_succ])
      refine wpAnyH_take (i := 9) (oi := { dst := Option.some 19, op := Go.Op.pick (Go.Operand.tmp 15) (Go.Operand.const (Go.Value.bool Bool.true)) (Go.Operand.tmp 18), type := 4, pos := "ref.go:126", after := #[{ on := 5, ground := Go.Ground.data }, { on := 8, ground := Go.Ground.data }, { on := 10, ground := Go.Ground.gcOnly Go.Departure.lateStores }], guard := Option.none }) (v := ?_) rfl (by kernel_rfl) (by kernel_rfl) (by kernel_rfl) (fun _ _ _ h => h) (Or.inl ⟨by rfl, ?_⟩) hHeld ?_
      rotate_left
      · intro W hSw
        have s0 := hSw.2
        go_simp
        (try with_reducible rfl)
      (try simp only [Act.put, List.setIfInBounds_toArray, List.set_cons_zero, List.set_cons_succ])
      refine wpAnyH_ready (rs := [10]) (by kernel_rfl) (by simp) ?_
      refine AllReadyH.cons (o := { dst := Option.none, op := Go.Op.store 24 (Go.Operand.tmp 2) (Go.Operand.tmp 11), type := 0, pos := "ref.go:126", after := #[{ on := 1, ground := Go.Ground.data }, { on := 5, ground := Go.Ground.chain }, { on := 0, ground := Go.Ground.phase }, { on := 1, ground := Go.Ground.phase }, { on := 2, ground := Go.Ground.textOnly Go.Departure.lateStores }, { on := 3, ground := Go.Ground.textOnly Go.Departure.lateStores }, { on := 4, ground := Go.Ground.textOnly Go.Departure.lateStores }, { on := 5, ground := Go.Ground.textOnly Go.Departure.lateStores }, { on := 6, ground := Go.Ground.textOnly Go.Departure.lateStores }, { on := 7, ground := Go.Ground.textOnly Go.Departure.lateStores }, { on := 8, ground := Go.Ground.textOnly Go.Departure.lateStores }, { on := 9, ground := Go.Ground.textOnly Go.Departure.lateStores }], guard := Option.none }) rfl (fun K hK => ?_) AllReadyH.nil
      rw [if_pos (by rfl)]
      refine wp_store_mid 24 _ _ rfl (w.heap.size + 1) 0 OL.toArray rfl rfl T1.out I24o.out OO.out.1 ?_; rw [List.toList_toArray]
      refine hK.out _ _ P1.out (fun hHeld => ?_)
      clear hK K
      (try simp only [Act.put])
      refine wpAnyH_ready (rs := [11]) (by kernel_rfl) (by simp) ?_
      refine AllReadyH.cons (o := { dst := Option.some 3, op := Go.Op.assign (Go.Operand.tmp 19), type := 4, pos := "ref.go:126", after := #[{ on := 9, ground := Go.Ground.data }, { on := 10, ground := Go.Ground.chain }, { on := 0, ground := Go.Ground.phase }, { on := 1, ground := Go.Ground.phase }, { on := 2, ground := Go.Ground.phase }, { on := 3, ground := Go.Ground.phase }, { on := 4, ground := Go.Ground.phase }, { on := 5, ground := Go.Ground.phase }, { on := 6, ground := Go.Ground.phase }, { on := 7, ground := Go.Ground.phase }, { on := 8, ground := Go.Ground.phase }, { on := 9, ground := Go.Ground.phase }, { on := 10, ground := Go.Ground.phase }], guard := Option.none }) rfl (fun K hK => ?_) AllReadyH.nil
      go_simp
      skip
      refine hK.out _ _ P1.out (fun hHeld => ?_)
      clear hK K
      (try simp only [Act.put, List.setIfInBounds_toArray, List.set_cons_zero, List.set_cons_succ])
      refine wpAnyH_done (by kernel_rfl) ?_ _
      clear hHeld
      go_wp2
      exact ret_op rfl rfl rfl K1.out.1.2.1 ZZ.out.1 rfl ⟨by rw [EI.out, E6.out]; rfl, K1.out.tail.tail⟩
    · have n2 : (e.k == 2) = false := by simpa using h2
      have E6 : Hid (BB = (e.k == 3)) := hid (by rw [← HBB.out]; simp [hk, h2]; rfl)
      clear hk h2
      generalize e.k = KK at *
      go_upto_region 3 with fail
      have K0 := hid A0.out.drew
      have P0 := hid (RO.out _ _ K0.out)
      refine wp_region_held_drew (S := (fun W => W.rangeAt w.heap.size 7 OL ∧ W.cell? ⟨w.heap.size, 0, none⟩ = some (.int .i64 KK))) (by kernel_rfl) P0.out (fun hHeld => ?_)
      generalize World.drew _ = wd at *
      have K1 := hid (SO.out _ _ K0.out)
      have T1 := hid (THo.out _ _ K0.out)
      have P1 := hid (RO.out _ _ K1.out)
      refine wpAnyH_take (i := 0) (oi := { dst := Option.some 10, op := Go.Op.fieldAddr 36 (Go.Operand.tmp 1) 7, type := 0, pos := "ref.go:126", after := #[], guard := Option.none }) (v := ?_) rfl (by kernel_rfl) (by kernel_rfl) (by kernel_rfl) (fun _ _ _ h => h) (Or.inl ⟨by rfl, ?_⟩) hHeld ?_
      rotate_left
      · intro W hSw
        have s0 := hSw.2
        go_simp
        (try with_reducible rfl)
      (try simp only [Act.put, List.setIfInBounds_toArray, List.set_cons_zero, List.set_cons_succ])
      refine wpAnyH_take (i := 1) (oi := { dst := Option.some 11, op := Go.Op.load 24 (Go.Operand.tmp 10), type := 24, pos := "ref.go:126", after := #[{ on := 0, ground := Go.Ground.data }], guard := Option.none }) (v := .agg OL.toArray) rfl (by kernel_rfl) (by kernel_rfl) (by kernel_rfl) (fun _ _ _ h => h) (yieldsIf_load_mid (by rfl) 24 (.tmp 10) rfl w.heap.size 7 rfl OL _ (fun W hSw => hSw.1) Tryz.underlying24 rfl J24o.out) hHeld ?_
      (try simp only [Act.put, List.setIfInBounds_toArray, List.set_cons_zero, List.set_cons_succ])
      refine wpAnyH_take (i := 2) (oi := { dst := Option.some 12, op := Go.Op.fieldAddr 36 (Go.Operand.tmp 1) 0, type := 0, pos := "ref.go:126", after := #[], guard := Option.none }) (v := ?_) rfl (by kernel_rfl) (by kernel_rfl) (by kernel_rfl) (fun _ _ _ h => h) (Or.inl ⟨by rfl, ?_⟩) hHeld ?_
      rotate_left
      · intro W hSw
        have s0 := hSw.2
        go_simp
        (try with_reducible rfl)
      (try simp only [Act.put, List.setIfInBounds_toArray, List.set_cons_zero, List.set_cons_succ])
      refine wpAnyH_take (i := 3) (oi := { dst := Option.some 13, op := Go.Op.load 3 (Go.Operand.tmp 12), type := 3, pos := "ref.go:126", after := #[{ on := 2, ground := Go.Ground.data }], guard := Option.none }) (v := ?_) rfl (by kernel_rfl) (by kernel_rfl) (by kernel_rfl) (fun _ _ _ h => h) (Or.inl ⟨by rfl, ?_⟩) hHeld ?_
      rotate_left
      · intro W hSw
        have s0 := hSw.2
        go_simp
        (try with_reducible rfl)
      (try simp only [Act.put, List.setIfInBounds_toArray, List.set_cons_zero, List.set_cons_succ])
      refine wpAnyH_take (i := 4) (oi := { dst := Option.some 14, op := Go.Op.binOp Go.BinOp.eql 3 (Go.Operand.tmp 13) (Go.Operand.const (Go.Value.int Go.IntKind.i64 2)) 3, type := 4, pos := "ref.go:126", after := #[{ on := 3, ground := Go.Ground.data }], guard := Option.none }) (v := ?_) rfl (by kernel_rfl) (by kernel_rfl) (by kernel_rfl) (fun _ _ _ h => h) (Or.inl ⟨by rfl, ?_⟩) hHeld ?_
      rotate_left
      · intro W hSw
        have s0 := hSw.2
        go_simp
        (try with_reducible rfl)
      (try simp only [Act.put, List.setIfInBounds_toArray, List.set_cons_zero, List.set_cons_succ])
      refine wpAnyH_take (i := 5) (oi := { dst := Option.some 15, op := Go.Op.move (Go.Operand.tmp 14), type := 4, pos := "ref.go:126", after := #[{ on := 4, ground := Go.Ground.data }], guard := Option.none }) (v := ?_) rfl (by kernel_rfl) (by kernel_rfl) (by kernel_rfl) (fun _ _ _ h => h) (Or.inl ⟨by rfl, ?_⟩) hHeld ?_
      rotate_left
      · intro W hSw
        have s0 := hSw.2
        go_simp
        (try with_reducible rfl)
      (try simp only [Act.put, List.setIfInBounds_toArray, List.set_cons_zero, List.set_cons_succ])
      refine wpAnyH_take (i := 6) (oi := { dst := Option.some 16, op := Go.Op.fieldAddr 36 (Go.Operand.tmp 1) 0, type := 0, pos := "ref.go:126", after := #[{ on := 5, ground := Go.Ground.guard }, { on := 10, ground := Go.Ground.gcOnly Go.Departure.lateStores }], guard := Option.some (5, Bool.false) }) (v := ?_) rfl (by kernel_rfl) (by kernel_rfl) (by kernel_rfl) (fun _ _ _ h => h) (Or.inl ⟨by rfl, ?_⟩) hHeld ?_
      rotate_left
      · intro W hSw
        have s0 := hSw.2
        go_simp
        (try with_reducible rfl)
      (try simp only [Act.put, List.setIfInBounds_toArray, List.set_cons_zero, List.set_cons_succ])
      refine wpAnyH_take (i := 7) (oi := { dst := Option.some 17, op := Go.Op.load 3 (Go.Operand.tmp 16), type := 3, pos := "ref.go:126", after := #[{ on := 6, ground := Go.Ground.data }, { on := 5, ground := Go.Ground.guard }, { on := 10, ground := Go.Ground.gcOnly Go.Departure.lateStores }], guard := Option.some (5, Bool.false) }) (v := ?_) rfl (by kernel_rfl) (by kernel_rfl) (by kernel_rfl) (fun _ _ _ h => h) (Or.inl ⟨by rfl, ?_⟩) hHeld ?_
      rotate_left
      · intro W hSw
        have s0 := hSw.2
        go_simp
        (try with_reducible rfl)
      (try simp only [Act.put, List.setIfInBounds_toArray, List.set_cons_zero, List.set_cons_succ])
      refine wpAnyH_take (i := 8) (oi := { dst := Option.some 18, op := Go.Op.binOp Go.BinOp.eql 3 (Go.Operand.tmp 17) (Go.Operand.const (Go.Value.int Go.IntKind.i64 3)) 3, type := 4, pos := "ref.go:126", after := #[{ on := 7, ground := Go.Ground.data }, { on := 5, ground := Go.Ground.guard }, { on := 10, ground := Go.Ground.gcOnly Go.Departure.lateStores }], guard := Option.some (5, Bool.false) }) (v := ?_) rfl (by kernel_rfl) (by kernel_rfl) (by kernel_rfl) (fun _ _ _ h => h) (Or.inl ⟨by rfl, ?_⟩) hHeld ?_
      rotate_left
      · intro W hSw
        have s0 := hSw.2
        go_simp
        (try with_reducible rfl)
      (try simp only [Act.put, List.setIfInBounds_toArray, List.set_cons_zero, List.set_cons_succ])
      refine wpAnyH_take (i := 9) (oi := { dst := Option.some 19, op := Go.Op.pick (Go.Operand.tmp 15) (Go.Operand.const (Go.Value.bool Bool.true)) (Go.Operand.tmp 18), type := 4, pos := "ref.go:126", after := #[{ on := 5, ground := Go.Ground.data }, { on := 8, ground := Go.Ground.data }, { on := 10, ground := Go.Ground.gcOnly Go.Departure.lateStores }], guard := Option.none }) (v := ?_) rfl (by kernel_rfl) (by kernel_rfl) (by kernel_rfl) (fun _ _ _ h => h) (Or.inl ⟨by rfl, ?_⟩) hHeld ?_
      rotate_left
      · intro W hSw
        have s0 := hSw.2
        go_simp
        (try with_reducible rfl)
      (try simp only [Act.put, List.setIfInBounds_toArray, List.set_cons_zero, List.set_cons_succ])
      refine wpAnyH_ready (rs := [10]) (by kernel_rfl) (by simp) ?_
      refine AllReadyH.cons (o := { dst := Option.none, op := Go.Op.store 24 (Go.Operand.tmp 2) (Go.Operand.tmp 11), type := 0, pos := "ref.go:126", after := #[{ on := 1, ground := Go.Ground.data }, { on := 5, ground := Go.Ground.chain }, { on := 0, ground := Go.Ground.phase }, { on := 1, ground := Go.Ground.phase }, { on := 2, ground := Go.Ground.textOnly Go.Departure.lateStores }, { on := 3, ground := Go.Ground.textOnly Go.Departure.lateStores }, { on := 4, ground := Go.Ground.textOnly Go.Departure.lateStores }, { on := 5, ground := Go.Ground.textOnly Go.Departure.lateStores }, { on := 6, ground := Go.Ground.textOnly Go.Departure.lateStores }, { on := 7, ground := Go.Ground.textOnly Go.Departure.lateStores }, { on := 8, ground := Go.Ground.textOnly Go.Departure.lateStores }, { on := 9, ground := Go.Ground.textOnly Go.Departure.lateStores }], guard := Option.none }) rfl (fun K hK => ?_) AllReadyH.nil
      rw [if_pos (by rfl)]
      refine wp_store_mid 24 _ _ rfl (w.heap.size + 1) 0 OL.toArray rfl rfl T1.out I24o.out OO.out.1 ?_; rw [List.toList_toArray]
      refine hK.out _ _ P1.out (fun hHeld => ?_)
      clear hK K
      (try simp only [Act.put])
      refine wpAnyH_ready (rs := [11]) (by kernel_rfl) (by simp) ?_
      refine AllReadyH.cons (o := { dst := Option.some 3, op := Go.Op.assign (Go.Operand.tmp 19), type := 4, pos := "ref.go:126", after := #[{ on := 9, ground := Go.Ground.data }, { on := 10, ground := Go.Ground.chain }, { on := 0, ground := Go.Ground.phase }, { on := 1, ground := Go.Ground.phase }, { on := 2, ground := Go.Ground.phase }, { on := 3, ground := Go.Ground.phase }, { on := 4, ground := Go.Ground.phase }, { on := 5, ground := Go.Ground.phase }, { on := 6, ground := Go.Ground.phase }, { on := 7, ground := Go.Ground.phase }, { on := 8, ground := Go.Ground.phase }, { on := 9, ground := Go.Ground.phase }, { on := 10, ground := Go.Ground.phase }], guard := Option.none }) rfl (fun K hK => ?_) AllReadyH.nil
      go_simp
      skip
      refine hK.out _ _ P1.out (fun hHeld => ?_)
      clear hK K
      (try simp only [Act.put, List.setIfInBounds_toArray, List.set_cons_zero, List.set_cons_succ])
      refine wpAnyH_done (by kernel_rfl) ?_ _
      clear hHeld
      go_wp2
      exact ret_op rfl rfl rfl K1.out.1.2.1 ZZ.out.1 rfl ⟨by rw [EI.out, E6.out]; rfl, K1.out.tail.tail⟩
end Go.Proofs.YtfeppannfcbakaaGreatDoor

namespace Go.Proofs.YtfeppannfcbakaaGreatDoor
open Go.RowKit
set_option linter.unusedVariables false
set_option maxRecDepth 100000

theorem hx_idx {i : Nat} (hi : i < 16) (W : World) : (Instr.index 9 (.string ⟨#[48, 49, 50, 51, 52, 53, 54, 55, 56, 57, 97, 98, 99, 100, 101, 102]⟩) (.int .i64 (i : Int))).run Tryz.prog W = .ok (.int .u8 ((hxD.getD i 0).toNat : Int)) W := by
  have := idx_at (l := hxD) (k := i) hi W
  exact this
set_option maxHeartbeats 6400000 in
set_option maxRecDepth 1000000 in
theorem rhex_any {s : Value} {l : List UInt8} {w : World} (hs : BRd w s l) (hl : l.length ≤ 10000000) :
    Calls Tryz.prog 62 #[s] w fun e w' => e = .returned (.string ⟨(hexW l).toArray⟩) ∧ Below w.heap.size w w' := by
  obtain ⟨ao, c, rfl⟩ := hs.form
  have HS : Hid (∀ (o : List UInt8) (a1 : Option Addr) (c1 : Nat) W, All (ownC 5 (.slice a1 o.length c1) (cellsB o) :: [inC w]) W → BRd W (.slice ao l.length c) l) := hid (fun o a1 c1 W h => hs.later (h.into (by simp)))
  have N := hid (own_newB (All.came w) [] (by simp))
  have EF : Hid (hexW (l.take l.length) = hexW l) := hid (by rw [List.take_length])
  clear hs
  generalize hn : l.length = n at *
  have HN := hid hn
  clear hn
  go_enter Tryz.func62, Tryz.ntmps62
  go_wp2
  go_loopw [4, 5] (fun ov iv wr => ∃ (k : Nat) (o : List UInt8) (a1 : Option Addr) (c1 : Nat), k ≤ n ∧ iv = .int .i64 (k : Int) ∧ ov = .slice a1 o.length c1 ∧ o.length ≤ 2 * k ∧ Hid (o = hexW (l.take k)) ∧ Hid (All (ownC 5 (.slice a1 o.length c1) (cellsB o) :: [inC w]) wr)) (fun _ iv _ => n - (intOf iv).toNat)
  case atStart => exact ⟨0, [], _, _, by omega, rfl, rfl, by simp, hid rfl, N⟩
  case round =>
    obtain ⟨k, o, a1, c1, hk, rfl, rfl, ho, HO, HA⟩ := hrel
    clear N
    by_cases hlt : k < n
    · have hlt' : (k : Int) < (n : Int) := by omega
      obtain ⟨g, of, b, rfl, hb, hcb⟩ := (HS.out _ _ _ _ HA.out).at (j := k) (by rw [HN.out]; exact hlt)
      have hb8 := b.toNat_lt
      obtain ⟨a2, c2, w2, r2, A2⟩ := app_byte HA.out ((ByteArray.mk #[48, 49, 50, 51, 52, 53, 54, 55, 56, 57, 97, 98, 99, 100, 101, 102])[b.toNat / 16]'(by show b.toNat / 16 < 16; omega)) (by omega)
      obtain ⟨g', of', b', e', hb', hcb'⟩ := (hid (A2.into (w0 := w) (by simp))).out |> fun h2 => (HS.out (o ++ [((ByteArray.mk #[48, 49, 50, 51, 52, 53, 54, 55, 56, 57, 97, 98, 99, 100, 101, 102])[b.toNat / 16]'(by show b.toNat / 16 < 16; omega))]) _ _ _ (by simpa using A2)).at (j := k) (by rw [HN.out]; exact hlt)
      simp only [Option.some.injEq, Addr.mk.injEq, and_true] at e'
      obtain ⟨rfl, rfl⟩ := e'
      obtain rfl : b = b' := by rw [hb] at hb'; exact Option.some.inj hb'
      obtain ⟨a3, c3, w3, r3, A3⟩ := app_byte (l := o ++ [((ByteArray.mk #[48, 49, 50, 51, 52, 53, 54, 55, 56, 57, 97, 98, 99, 100, 101, 102])[b.toNat / 16]'(by show b.toNat / 16 < 16; omega))]) (by simpa using A2) ((ByteArray.mk #[48, 49, 50, 51, 52, 53, 54, 55, 56, 57, 97, 98, 99, 100, 101, 102])[b.toNat % 16]'(by show b.toNat % 16 < 16; omega)) (by simp; omega)
      have R2 := hid r2
      have R3 := hid r3
      have K3 : Hid (All (ownC 5 (.slice a3 (o ++ [((ByteArray.mk #[48, 49, 50, 51, 52, 53, 54, 55, 56, 57, 97, 98, 99, 100, 101, 102])[b.toNat / 16]'(by show b.toNat / 16 < 16; omega))] ++ [((ByteArray.mk #[48, 49, 50, 51, 52, 53, 54, 55, 56, 57, 97, 98, 99, 100, 101, 102])[b.toNat % 16]'(by show b.toNat % 16 < 16; omega))]).length c3) (cellsB (o ++ [((ByteArray.mk #[48, 49, 50, 51, 52, 53, 54, 55, 56, 57, 97, 98, 99, 100, 101, 102])[b.toNat / 16]'(by show b.toNat / 16 < 16; omega))] ++ [((ByteArray.mk #[48, 49, 50, 51, 52, 53, 54, 55, 56, 57, 97, 98, 99, 100, 101, 102])[b.toNat % 16]'(by show b.toNat % 16 < 16; omega))])) :: [inC w]) w3) := hid (by
        have e9 : (o ++ [((ByteArray.mk #[48, 49, 50, 51, 52, 53, 54, 55, 56, 57, 97, 98, 99, 100, 101, 102])[b.toNat / 16]'(by show b.toNat / 16 < 16; omega))] ++ [((ByteArray.mk #[48, 49, 50, 51, 52, 53, 54, 55, 56, 57, 97, 98, 99, 100, 101, 102])[b.toNat % 16]'(by show b.toNat % 16 < 16; omega))]).length = (o ++ [((ByteArray.mk #[48, 49, 50, 51, 52, 53, 54, 55, 56, 57, 97, 98, 99, 100, 101, 102])[b.toNat / 16]'(by show b.toNat / 16 < 16; omega))]).length + 1 := by rw [List.length_append]; rfl
        rw [e9]
        exact A3)
      have NX : Hid (o ++ [((ByteArray.mk #[48, 49, 50, 51, 52, 53, 54, 55, 56, 57, 97, 98, 99, 100, 101, 102])[b.toNat / 16]'(by show b.toNat / 16 < 16; omega))] ++ [((ByteArray.mk #[48, 49, 50, 51, 52, 53, 54, 55, 56, 57, 97, 98, 99, 100, 101, 102])[b.toNat % 16]'(by show b.toNat % 16 < 16; omega))] = hexW (l.take (k + 1))) := hid (by rw [hexW_snoc hb, HO.out, hx_at, hx_at])
      have d1 : IntKind.i64.wrap ((b.toNat : Int).tdiv 16) = ((b.toNat / 16 : Nat) : Int) := by
        have : ∀ a : Fin 256, IntKind.i64.wrap ((a.val : Int).tdiv 16) = ((a.val / 16 : Nat) : Int) := by decide +kernel
        exact this ⟨b.toNat, hb8⟩
      have d2 : IntKind.i64.wrap ((b.toNat : Int).tmod 16) = ((b.toNat % 16 : Nat) : Int) := by
        have : ∀ a : Fin 256, IntKind.i64.wrap ((a.val : Int).tmod 16) = ((a.val % 16 : Nat) : Int) := by decide +kernel
        exact this ⟨b.toNat, hb8⟩
      clear r2 r3 A2 A3 hb hb' HA
      go_wp2_with (first | (rw [d1]) | (rw [d2]) | (at_builtin; refine wpList_append_run rfl _ _ 32 rfl _ _ _ _ rfl rfl R2.out ?_) | (at_builtin; refine wpList_append_run rfl _ _ 32 rfl _ _ _ _ rfl rfl R3.out ?_))
      go_roundw
      case rel => exact ⟨k + 1, _, _, _, by omega, by go_num, by simp [List.length_append], by simp; omega, NX, K3⟩
      case measure => simp [intOf]; omega
    · have hlt' : ¬ (k : Int) < (n : Int) := by omega
      have ek : k = n := by omega
      have cv := conv_string (reads_own HA.out)
      have EO : Hid (o = hexW l) := hid (by rw [HO.out, ek, EF.out])
      have KF := hid (HA.out.into (w0 := w) (by simp))
      clear ek
      go_wp2
      go_ret
      exact ⟨by rw [EO.out]; rfl, KF.out⟩
end Go.Proofs.YtfeppannfcbakaaGreatDoor

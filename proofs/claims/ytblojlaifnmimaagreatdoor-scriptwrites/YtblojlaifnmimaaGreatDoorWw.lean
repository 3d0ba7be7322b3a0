import Derived.Test.YtblojlaifnmimaaGreatDoorWv
import Derived.Test.YtblojlaifnmimaaGreatDoorWb
namespace Go.Proofs.YtblojlaifnmimaaGreatDoor
open Go.RowKit
set_option linter.unusedVariables false

theorem yieldsIf_build {P : Program} {ops : Array Oper} {S : World → Prop} {op : Oper} {a : Act} (hw : Region.wanted op (yielded ops a.tmps) = true) (t : TypeId) (parts : Array (Nat × Operand)) (ho : op.op = .build t parts)
    (cells : Array Value) (hf : P.built t (parts.map fun (i, x) => (i, a.eval x)).toList = some cells) : YieldsIf P ops S op (.agg cells) a :=
  .inl ⟨hw, fun w _ => by
    unfold execOp
    simp only [ho, Sem.run_bind, run_build w t _ _ hf, Result.andThen_ok]
    rfl⟩
theorem mk27 {c : List Int} (hc : c.length = 10) (a1 : Option Addr) (n1 c1 : Nat) : (Tryz.prog.info? 27).map (·.size) = some (cI c ++ [Value.slice a1 n1 c1]).toArray.size ∧ plZ.toArray.size = (cI c ++ [Value.slice a1 n1 c1]).toArray.size ∧ (cI c ++ [Value.slice a1 n1 c1]).toArray.all (·.oneCell') = true ∧ Tryz.prog.built 27 [(0, .agg (cI c).toArray), (1, .slice a1 n1 c1)] = some (cI c ++ [Value.slice a1 n1 c1]).toArray := by
  refine ⟨by rw [Tryz.i27]; simp [cI_len, hc], by show 11 = _; simp [cI_len, hc], pl_one c a1 n1 c1, ?_⟩
  obtain ⟨b0, b1, b2, b3, b4, b5, b6, b7, b8, b9, rfl⟩ := ten hc
  kernel_rfl
set_option maxHeartbeats 3200000 in
set_option maxRecDepth 1000000 in
theorem writes_law {c : List Int} {v : Value} {ss : List Sp} {w : World} (E : En w) (hc : c.length = 10) (hv : Sps w v ss) (hI : ∀ s ∈ ss, spI s) (hn : ss.length ≤ 140737488355328) (hb : ss.length * 96 ≤ 140737488355328) :
    Calls Tryz.prog 4 #[.agg (cI c ++ [v]).toArray] w fun e w' => e = .returned (.bool true) ∧ Below w.heap.size w w' := by
  have P00 : PV (cI c ++ [v]) c ss [inC w] := PV.mk' (by obtain ⟨ao, k, e⟩ := hv.form; exact ⟨_, _, _, e⟩) hc hn hI (fun W h => hv.later (h.into (by simp)))
  have A0 := hid ((All.came w).addBlk (cI c ++ [v]) 27)
  have I0 : Hid (Imp w [blkC w.heap.size (cI c ++ [v]) 27, inC w]) := hid (fun W h => h.tail)
  have SH := hid (shown_any A0.out (I0.out.en E))
  have SG : Hid (∀ ds W, All ds W → blkC w.heap.size (cI c ++ [v]) 27 ∈ ds → W.rangeAt w.heap.size 0 (cI c) ∧ W.cell? ⟨w.heap.size, 10, none⟩ = some v) := hid (fun ds W h hm => by
    obtain ⟨r, y, _⟩ := pl_range h hm hc
    exact ⟨r, y⟩)
  have SP : Hid (∀ ds W, All ds W → inC w ∈ ds → Sps W v ss) := hid (fun ds W h hm => hv.later (h.into hm))
  have MK := hid (mk27 hc)
  have AZ : Hid (∀ ds W, All ds W → All (blkC W.heap.size plZ 27 :: ds) (W.alloc (.cells #[.int .i64 0, .int .i64 0, .int .i64 0, .int .i64 0, .int .i64 0, .int .i64 0, .int .i64 0, .int .i64 0, .int .i64 0, .int .i64 0, .slice none 0 0] 27))) := hid (fun ds W h => by
    have := h.addBlk plZ 27
    rwa [plZ_eq] at this)
  have I24 : Hid ((Tryz.prog.info? 24).map (·.size) = some (cI c).length) := hid (by rw [Tryz.i24, cI_len, hc])
  have HB := hid hb
  have PT : Hid (∀ V D W, PV V c ss D → Imp w D → All D W → Calls Tryz.prog 13 #[.agg V.toArray] W fun e w' => e = .returned (.tuple #[.string ⟨(printT c ss).toArray⟩, .int .i64 (printE c ss)]) ∧ All D w') := hid (fun V D W hV hD A => hV.print (hD.en E) A)
  have RT : Hid (∀ W D, Imp w D → All D W → Calls Tryz.prog 14 #[.agg (cI c ++ [v]).toArray] W fun e w' => e = .returned (.tuple #[.string ⟨(printT c ss).toArray⟩, .int .i64 (printE c ss)]) ∧ All D w') := hid (fun W D hD h => (rPrint_any hc (hv.later ((hD W h).into (by simp))) hI hn).mono fun e w' ⟨he, hb⟩ => ⟨he, h.later hb⟩)
  have P0 := hid P00
  have MV : Hid (∀ a1 c1 D, PV (cI c ++ [Value.slice a1 ss.length c1]) c ss (spC (.slice a1 ss.length c1) ss :: D)) := hid (fun a1 c1 D => PV.mk' ⟨_, _, _, rfl⟩ hc hn hI (fun W h => sps_mem h (.head _)))
  have SM := hid (same_pack (c := c) (ss := ss))
  clear P00 hv hI hn hc E hb
  generalize hV : cI c ++ [v] = V0 at *
  clear hV
  generalize hCC : cI c = CC at *
  clear hCC
  generalize hX0 : ByteArray.mk (printT c ss).toArray = X0 at *
  clear hX0
  generalize hE1 : printE c ss = E1 at *
  clear hE1
  go_enter Tryz.func4, Tryz.ntmps4
  go_upto_region 2 with (go_at_call 8; refine SH.out.mono ?_; rintro e w1 ⟨rfl, A1⟩; have K1 := hid A1; clear A1)
  clear SH A0
  go_cut [4] (fun p wx => ∃ N a1 c1, p = ptr N ∧ Hid (All (blkC N (CC ++ [Value.slice a1 ss.length c1]) 27 :: spC (.slice a1 ss.length c1) ss :: [blkC w.heap.size V0 27, inC w]) wx))
  case first =>
    have KD := hid K1.out.drew
    clear K1 PT RT MV SM P0
    refine wp_region_held_drew (S := fun W => W.rangeAt w.heap.size 0 CC ∧ W.cell? ⟨w.heap.size, 10, none⟩ = some v) (by kernel_rfl) (SG.out _ _ KD.out (by simp)) (fun hHeld => ?_)
    generalize w1.drew = wd at *
    refine wpAnyH_take (i := 0) (oi := { dst := Option.some 11, op := Go.Op.fieldAddr 27 (Go.Operand.tmp 1) 0, type := 0, pos := "law.go:74", after := #[], guard := Option.none }) (v := ?_) rfl (by kernel_rfl) (by kernel_rfl) (by kernel_rfl) (fun _ _ _ h => h) (Or.inl ⟨by rfl, ?_⟩) hHeld ?_
    rotate_left
    · intro W hSw
      (try dsimp only at hSw)
      go_simp
      (try with_reducible rfl)
    (try simp only [Act.put, List.setIfInBounds_toArray, List.set_cons_zero, List.set_cons_succ])
    refine wpAnyH_take (i := 3) (oi := { dst := Option.some 14, op := Go.Op.fieldAddr 27 (Go.Operand.tmp 1) 1, type := 0, pos := "law.go:74", after := #[], guard := Option.none }) (v := ?_) rfl (by kernel_rfl) (by kernel_rfl) (by kernel_rfl) (fun _ _ _ h => h) (Or.inl ⟨by rfl, ?_⟩) hHeld ?_
    rotate_left
    · intro W hSw
      (try dsimp only at hSw)
      go_simp
      (try with_reducible rfl)
    (try simp only [Act.put, List.setIfInBounds_toArray, List.set_cons_zero, List.set_cons_succ])
    refine wpAnyH_take (i := 1) (oi := { dst := Option.some 12, op := Go.Op.load 24 (Go.Operand.tmp 11), type := 24, pos := "law.go:74", after := #[{ on := 0, ground := Go.Ground.data }], guard := Option.none }) (v := .agg CC.toArray) rfl (by kernel_rfl) (by kernel_rfl) (by kernel_rfl) (fun _ _ _ h => h) (yieldsIf_load_mid (by rfl) 24 (.tmp 11) rfl w.heap.size 0 rfl CC _ (fun W hSw => hSw.1) Tryz.underlying24 rfl I24.out) hHeld ?_
    (try simp only [Act.put, List.setIfInBounds_toArray, List.set_cons_zero, List.set_cons_succ])
    refine wpAnyH_take (i := 4) (oi := { dst := Option.some 15, op := Go.Op.load 25 (Go.Operand.tmp 14), type := 25, pos := "law.go:74", after := #[{ on := 3, ground := Go.Ground.data }], guard := Option.none }) (v := ?_) rfl (by kernel_rfl) (by kernel_rfl) (by kernel_rfl) (fun _ _ _ h => h) (Or.inl ⟨by rfl, ?_⟩) hHeld ?_
    rotate_left
    · intro W hSw
      (try dsimp only at hSw)
      go_simp
      (try with_reducible rfl)
    (try simp only [Act.put, List.setIfInBounds_toArray, List.set_cons_zero, List.set_cons_succ])
    refine wpAnyH_ready (rs := [2, 7]) (by kernel_rfl) (by simp) ?_
    refine AllReadyH.cons (o := { dst := Option.some 13, op := Go.Op.buildSlice 25 0 #[], type := 25, pos := "law.go:74", after := #[], guard := Option.none }) rfl (fun K hK => ?_) (AllReadyH.cons (o := { dst := Option.some 4, op := Go.Op.alloc 27, type := 0, pos := "law.go:74", after := #[], guard := Option.none }) rfl (fun K hK => ?_) AllReadyH.nil)
    · go_simp
      have K2 := hid (All.addRowE KD.out 43 10)
      generalize wd.heap.size = N2 at *
      generalize wd.alloc (.cells #[] 43) = w2 at *
      refine hK.out _ _ (SG.out _ _ K2.out (by simp)) (fun hHeld => ?_)
      clear hK K
      (try simp only [Act.put, List.setIfInBounds_toArray, List.set_cons_zero, List.set_cons_succ])
      refine wpAnyH_ready (rs := [5, 7]) (by kernel_rfl) (by simp) ?_
      refine AllReadyH.cons (o := { dst := Option.some 16, op := Go.Op.call { callee := Go.Callee.builtin Go.Builtin.append, args := #[Go.Operand.tmp 13, Go.Operand.tmp 15], argTypes := #[25, 25] }, type := 25, pos := "law.go:74", after := #[{ on := 2, ground := Go.Ground.data }, { on := 4, ground := Go.Ground.data }], guard := Option.none }) rfl (fun K hK => ?_) (AllReadyH.cons (o := { dst := Option.some 4, op := Go.Op.alloc 27, type := 0, pos := "law.go:74", after := #[], guard := Option.none }) rfl (fun K hK => ?_) AllReadyH.nil)
      · skip
        obtain ⟨v1, w5, hr, A5⟩ := app_all K2.out (SP.out _ _ K2.out (by simp)) HB.out
        obtain ⟨a1, c1, hv1⟩ := owns_form (A5.1.2.1 : w5.ownsRow 0 43 10 v1 ss.length _)
        subst hv1
        have R5 := hid hr
        have K5 := hid A5
        clear hr A5
        refine step_append_run (by rfl) (.tmp 13) (.tmp 15) 25 (by rfl) _ _ _ _ (by rfl) (by rfl) R5.out ?_
        refine hK.out _ _ (SG.out _ _ K5.out (by simp)) (fun hHeld => ?_)
        clear hK K
        (try simp only [Act.put, List.setIfInBounds_toArray, List.set_cons_zero, List.set_cons_succ])
        refine wpAnyH_take (i := 6) (oi := { dst := Option.some 17, op := Go.Op.build 27 #[(0, Go.Operand.tmp 12), (1, Go.Operand.tmp 16)], type := 27, pos := "law.go:74", after := #[{ on := 1, ground := Go.Ground.data }, { on := 5, ground := Go.Ground.data }], guard := Option.none }) (v := .agg (CC ++ [Value.slice a1 ss.length c1]).toArray) rfl (by kernel_rfl) (by kernel_rfl) (by kernel_rfl) (fun _ _ _ h => h) (yieldsIf_build (by rfl) 27 _ rfl (CC ++ [Value.slice a1 ss.length c1]).toArray (Eq.trans (b := Tryz.prog.built 27 [(0, .agg CC.toArray), (1, .slice a1 ss.length c1)]) (by kernel_rfl) (MK.out a1 ss.length c1).2.2.2)) hHeld ?_
        (try simp only [Act.put, List.setIfInBounds_toArray, List.set_cons_zero, List.set_cons_succ])
        refine wpAnyH_ready (rs := [7]) (by kernel_rfl) (by simp) ?_
        refine AllReadyH.cons (o := { dst := Option.some 4, op := Go.Op.alloc 27, type := 0, pos := "law.go:74", after := #[], guard := Option.none }) rfl (fun K hK => ?_) AllReadyH.nil
        go_simp
        have K7 := hid (AZ.out _ _ K5.out)
        generalize w5.heap.size = N7 at *
        generalize w5.alloc (.cells #[.int .i64 0, .int .i64 0, .int .i64 0, .int .i64 0, .int .i64 0, .int .i64 0, .int .i64 0, .int .i64 0, .int .i64 0, .int .i64 0, .slice none 0 0] 27) = w7 at *
        refine hK.out _ _ (SG.out _ _ K7.out (by simp)) (fun hHeld => ?_)
        clear hK K
        (try simp only [Act.put, List.setIfInBounds_toArray, List.set_cons_zero, List.set_cons_succ])
        refine wpAnyH_ready (rs := [8]) (by kernel_rfl) (by simp) ?_
        refine AllReadyH.cons (o := { dst := Option.none, op := Go.Op.store 27 (Go.Operand.tmp 4) (Go.Operand.tmp 17), type := 0, pos := "law.go:74", after := #[{ on := 7, ground := Go.Ground.data }, { on := 6, ground := Go.Ground.data }, { on := 5, ground := Go.Ground.chain }, { on := 0, ground := Go.Ground.phase }, { on := 1, ground := Go.Ground.phase }, { on := 2, ground := Go.Ground.phase }, { on := 3, ground := Go.Ground.phase }, { on := 4, ground := Go.Ground.phase }, { on := 5, ground := Go.Ground.phase }, { on := 6, ground := Go.Ground.phase }, { on := 7, ground := Go.Ground.phase }], guard := Option.none }) rfl (fun K hK => ?_) AllReadyH.nil
        rw [if_pos (by rfl)]
        have H7 := hid (K7.out : All _ _).1.2.1
        refine wp_store_row 27 _ _ rfl _ (CC ++ [Value.slice a1 ss.length c1]).toArray rfl rfl 27 _ H7.out (MK.out a1 ss.length c1).1 (MK.out a1 ss.length c1).2.1 (MK.out a1 ss.length c1).2.2.1 ?_
        have K8 := hid ((K7.out : All _ _).setRow (vs' := (CC ++ [Value.slice a1 ss.length c1])))
        refine hK.out _ _ (SG.out _ _ K8.out (by simp)) (fun hHeld => ?_)
        clear hK K
        (try simp only [Act.put])
        refine wpAnyH_done (by kernel_rfl) ?_ _
        clear hHeld
        go_wp2
        go_meet
        exact ⟨_, a1, c1, rfl, K8⟩
      · go_simp
        have K3 := hid (AZ.out _ _ K2.out)
        generalize w2.heap.size = N7 at *
        generalize w2.alloc (.cells #[.int .i64 0, .int .i64 0, .int .i64 0, .int .i64 0, .int .i64 0, .int .i64 0, .int .i64 0, .int .i64 0, .int .i64 0, .int .i64 0, .slice none 0 0] 27) = w3 at *
        refine hK.out _ _ (SG.out _ _ K3.out (by simp)) (fun hHeld => ?_)
        clear hK K
        (try simp only [Act.put, List.setIfInBounds_toArray, List.set_cons_zero, List.set_cons_succ])
        refine wpAnyH_ready (rs := [5]) (by kernel_rfl) (by simp) ?_
        refine AllReadyH.cons (o := { dst := Option.some 16, op := Go.Op.call { callee := Go.Callee.builtin Go.Builtin.append, args := #[Go.Operand.tmp 13, Go.Operand.tmp 15], argTypes := #[25, 25] }, type := 25, pos := "law.go:74", after := #[{ on := 2, ground := Go.Ground.data }, { on := 4, ground := Go.Ground.data }], guard := Option.none }) rfl (fun K hK => ?_) AllReadyH.nil
        skip
        obtain ⟨v1, w5, hr, A5⟩ := app_all K3.out.swap (SP.out _ _ K3.out.swap (by simp)) HB.out
        obtain ⟨a1, c1, hv1⟩ := owns_form (A5.1.2.1 : w5.ownsRow 0 43 10 v1 ss.length _)
        subst hv1
        have R5 := hid hr
        have K5 := hid A5
        clear hr A5
        refine step_append_run (by rfl) (.tmp 13) (.tmp 15) 25 (by rfl) _ _ _ _ (by rfl) (by rfl) R5.out ?_
        refine hK.out _ _ (SG.out _ _ K5.out (by simp)) (fun hHeld => ?_)
        clear hK K
        (try simp only [Act.put, List.setIfInBounds_toArray, List.set_cons_zero, List.set_cons_succ])
        refine wpAnyH_take (i := 6) (oi := { dst := Option.some 17, op := Go.Op.build 27 #[(0, Go.Operand.tmp 12), (1, Go.Operand.tmp 16)], type := 27, pos := "law.go:74", after := #[{ on := 1, ground := Go.Ground.data }, { on := 5, ground := Go.Ground.data }], guard := Option.none }) (v := .agg (CC ++ [Value.slice a1 ss.length c1]).toArray) rfl (by kernel_rfl) (by kernel_rfl) (by kernel_rfl) (fun _ _ _ h => h) (yieldsIf_build (by rfl) 27 _ rfl (CC ++ [Value.slice a1 ss.length c1]).toArray (Eq.trans (b := Tryz.prog.built 27 [(0, .agg CC.toArray), (1, .slice a1 ss.length c1)]) (by kernel_rfl) (MK.out a1 ss.length c1).2.2.2)) hHeld ?_
        (try simp only [Act.put, List.setIfInBounds_toArray, List.set_cons_zero, List.set_cons_succ])
        refine wpAnyH_ready (rs := [8]) (by kernel_rfl) (by simp) ?_
        refine AllReadyH.cons (o := { dst := Option.none, op := Go.Op.store 27 (Go.Operand.tmp 4) (Go.Operand.tmp 17), type := 0, pos := "law.go:74", after := #[{ on := 7, ground := Go.Ground.data }, { on := 6, ground := Go.Ground.data }, { on := 5, ground := Go.Ground.chain }, { on := 0, ground := Go.Ground.phase }, { on := 1, ground := Go.Ground.phase }, { on := 2, ground := Go.Ground.phase }, { on := 3, ground := Go.Ground.phase }, { on := 4, ground := Go.Ground.phase }, { on := 5, ground := Go.Ground.phase }, { on := 6, ground := Go.Ground.phase }, { on := 7, ground := Go.Ground.phase }], guard := Option.none }) rfl (fun K hK => ?_) AllReadyH.nil
        rw [if_pos (by rfl)]
        have H7 := hid (K5.out.swap : All _ _).1.2.1
        refine wp_store_row 27 _ _ rfl _ (CC ++ [Value.slice a1 ss.length c1]).toArray rfl rfl 27 _ H7.out (MK.out a1 ss.length c1).1 (MK.out a1 ss.length c1).2.1 (MK.out a1 ss.length c1).2.2.1 ?_
        have K8 := hid ((K5.out.swap : All _ _).setRow (vs' := (CC ++ [Value.slice a1 ss.length c1])))
        refine hK.out _ _ (SG.out _ _ K8.out (by simp)) (fun hHeld => ?_)
        clear hK K
        (try simp only [Act.put])
        refine wpAnyH_done (by kernel_rfl) ?_ _
        clear hHeld
        go_wp2
        go_meet
        exact ⟨_, a1, c1, rfl, K8⟩
    · go_simp
      have K2 := hid (AZ.out _ _ KD.out)
      generalize wd.heap.size = N2 at *
      generalize wd.alloc (.cells #[.int .i64 0, .int .i64 0, .int .i64 0, .int .i64 0, .int .i64 0, .int .i64 0, .int .i64 0, .int .i64 0, .int .i64 0, .int .i64 0, .slice none 0 0] 27) = w2 at *
      refine hK.out _ _ (SG.out _ _ K2.out (by simp)) (fun hHeld => ?_)
      clear hK K
      (try simp only [Act.put, List.setIfInBounds_toArray, List.set_cons_zero, List.set_cons_succ])
      refine wpAnyH_ready (rs := [2]) (by kernel_rfl) (by simp) ?_
      refine AllReadyH.cons (o := { dst := Option.some 13, op := Go.Op.buildSlice 25 0 #[], type := 25, pos := "law.go:74", after := #[], guard := Option.none }) rfl (fun K hK => ?_) AllReadyH.nil
      go_simp
      have K3 := hid (All.addRowE K2.out 43 10)
      generalize w2.heap.size = N3 at *
      generalize w2.alloc (.cells #[] 43) = w3 at *
      refine hK.out _ _ (SG.out _ _ K3.out (by simp)) (fun hHeld => ?_)
      clear hK K
      (try simp only [Act.put, List.setIfInBounds_toArray, List.set_cons_zero, List.set_cons_succ])
      refine wpAnyH_ready (rs := [5]) (by kernel_rfl) (by simp) ?_
      refine AllReadyH.cons (o := { dst := Option.some 16, op := Go.Op.call { callee := Go.Callee.builtin Go.Builtin.append, args := #[Go.Operand.tmp 13, Go.Operand.tmp 15], argTypes := #[25, 25] }, type := 25, pos := "law.go:74", after := #[{ on := 2, ground := Go.Ground.data }, { on := 4, ground := Go.Ground.data }], guard := Option.none }) rfl (fun K hK => ?_) AllReadyH.nil
      skip
      obtain ⟨v1, w5, hr, A5⟩ := app_all K3.out (SP.out _ _ K3.out (by simp)) HB.out
      obtain ⟨a1, c1, hv1⟩ := owns_form (A5.1.2.1 : w5.ownsRow 0 43 10 v1 ss.length _)
      subst hv1
      have R5 := hid hr
      have K5 := hid A5
      clear hr A5
      refine step_append_run (by rfl) (.tmp 13) (.tmp 15) 25 (by rfl) _ _ _ _ (by rfl) (by rfl) R5.out ?_
      refine hK.out _ _ (SG.out _ _ K5.out (by simp)) (fun hHeld => ?_)
      clear hK K
      (try simp only [Act.put, List.setIfInBounds_toArray, List.set_cons_zero, List.set_cons_succ])
      refine wpAnyH_take (i := 6) (oi := { dst := Option.some 17, op := Go.Op.build 27 #[(0, Go.Operand.tmp 12), (1, Go.Operand.tmp 16)], type := 27, pos := "law.go:74", after := #[{ on := 1, ground := Go.Ground.data }, { on := 5, ground := Go.Ground.data }], guard := Option.none }) (v := .agg (CC ++ [Value.slice a1 ss.length c1]).toArray) rfl (by kernel_rfl) (by kernel_rfl) (by kernel_rfl) (fun _ _ _ h => h) (yieldsIf_build (by rfl) 27 _ rfl (CC ++ [Value.slice a1 ss.length c1]).toArray (Eq.trans (b := Tryz.prog.built 27 [(0, .agg CC.toArray), (1, .slice a1 ss.length c1)]) (by kernel_rfl) (MK.out a1 ss.length c1).2.2.2)) hHeld ?_
      (try simp only [Act.put, List.setIfInBounds_toArray, List.set_cons_zero, List.set_cons_succ])
      refine wpAnyH_ready (rs := [8]) (by kernel_rfl) (by simp) ?_
      refine AllReadyH.cons (o := { dst := Option.none, op := Go.Op.store 27 (Go.Operand.tmp 4) (Go.Operand.tmp 17), type := 0, pos := "law.go:74", after := #[{ on := 7, ground := Go.Ground.data }, { on := 6, ground := Go.Ground.data }, { on := 5, ground := Go.Ground.chain }, { on := 0, ground := Go.Ground.phase }, { on := 1, ground := Go.Ground.phase }, { on := 2, ground := Go.Ground.phase }, { on := 3, ground := Go.Ground.phase }, { on := 4, ground := Go.Ground.phase }, { on := 5, ground := Go.Ground.phase }, { on := 6, ground := Go.Ground.phase }, { on := 7, ground := Go.Ground.phase }], guard := Option.none }) rfl (fun K hK => ?_) AllReadyH.nil
      rw [if_pos (by rfl)]
      have H7 := hid (K5.out.swap : All _ _).1.2.1
      refine wp_store_row 27 _ _ rfl _ (CC ++ [Value.slice a1 ss.length c1]).toArray rfl rfl 27 _ H7.out (MK.out a1 ss.length c1).1 (MK.out a1 ss.length c1).2.1 (MK.out a1 ss.length c1).2.2.1 ?_
      have K8 := hid ((K5.out.swap : All _ _).setRow (vs' := (CC ++ [Value.slice a1 ss.length c1])))
      refine hK.out _ _ (SG.out _ _ K8.out (by simp)) (fun hHeld => ?_)
      clear hK K
      (try simp only [Act.put])
      refine wpAnyH_done (by kernel_rfl) ?_ _
      clear hHeld
      go_wp2
      go_meet
      exact ⟨_, a1, c1, rfl, K8⟩
  case rest =>
    obtain ⟨N, a1, c1, rfl, K2⟩ := hcut
    clear K1 SG SP MK AZ I24 HB
    have I1 : Hid (Imp w (blkC N (CC ++ [Value.slice a1 ss.length c1]) 27 :: spC (.slice a1 ss.length c1) ss :: [blkC w.heap.size V0 27, inC w])) := hid I0.out.tail.tail
    have P1 := hid ((MV.out a1 c1 [blkC w.heap.size V0 27, inC w]).mono (fun W (h : All (blkC N (CC ++ [Value.slice a1 ss.length c1]) 27 :: spC (.slice a1 ss.length c1) ss :: [blkC w.heap.size V0 27, inC w]) W) => h.tail))
    have P2 := hid (P0.out.mono (fun W (h : All (blkC N (CC ++ [Value.slice a1 ss.length c1]) 27 :: spC (.slice a1 ss.length c1) ss :: [blkC w.heap.size V0 27, inC w]) W) => h.tail.tail.tail))
    clear MV P0
    generalize CC ++ [Value.slice a1 ss.length c1] = V1 at *
    have H2 := hid K2.out.1.2.1
    go_wp2_with (first | (refine wpList_load_row rfl 27 _ rfl N rfl 27 V1.toArray (0, 0) _ H2.out Tryz.underlying27 rfl P1.out.i ?_) | (go_at_call 13; refine (PT.out _ _ _ P1.out I1.out K2.out).mono ?_; rintro e w3 ⟨rfl, A3⟩; have K3 := hid A3; clear A3; have H3 := hid K3.out.tail.tail.1.2.1; refine Hid.out ?_))
    refine hid ?_
    clear H2 K2
    go_wp2_with (first | (refine wpList_load_row rfl 27 _ rfl w.heap.size rfl 27 V0.toArray (0, 0) _ H3.out Tryz.underlying27 rfl P2.out.i ?_) | (go_at_call 14; refine (RT.out _ _ I1.out K3.out).mono ?_; rintro e w4 ⟨rfl, A4⟩; have K4 := hid A4; clear A4; have H4 := hid K4.out.1.2.1; have H5 := hid K4.out.tail.tail.1.2.1; refine Hid.out ?_))
    refine hid ?_
    clear H3 K3
    go_wp2_with (first | (refine wpList_load_row rfl 27 _ rfl N rfl 27 V1.toArray (0, 0) _ H4.out Tryz.underlying27 rfl P1.out.i ?_) | (refine wpList_load_row rfl 27 _ rfl w.heap.size rfl 27 V0.toArray (0, 0) _ H5.out Tryz.underlying27 rfl P2.out.i ?_) | (go_at_call 11; refine (SM.out _ _ _ _ P1.out P2.out K4.out).mono ?_; rintro e w5 ⟨rfl, A5⟩; have K5 := hid A5; clear A5))
    go_ret
    exact ⟨rfl, (I1.out _ K5.out).into (by simp)⟩
end Go.Proofs.YtblojlaifnmimaaGreatDoor

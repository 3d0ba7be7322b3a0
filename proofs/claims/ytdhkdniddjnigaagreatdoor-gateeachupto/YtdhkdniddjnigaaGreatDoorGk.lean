import Derived.Test.YtdhkdniddjnigaaGreatDoorGj
import Derived.Test.YtdhkdniddjnigaaGreatDoorD12
namespace Go.Proofs.YtdhkdniddjnigaaGreatDoor
open Go.RowKit
set_option linter.unusedVariables false

theorem chkR8_rng (o : OpR) : 0 ≤ chkR8 o ∧ chkR8 o ≤ 1000 := by
  unfold chkR8 chkO
  exact chkA_rng _ _ _ _ _
theorem readO_rng (l : Ws) : 0 ≤ (readO l).e ∧ (readO l).e ≤ 1000 := by
  unfold readO
  split
  · simp [RO.bad]
  · split
    · simp [RO.bad]
    · split
      · simp [RO.bad]
      · split
        · simp [RO.bad]
        · split
          · simp only [RO.bad]; exact chkR8_rng _
          · simp
theorem opRd_rng (l : Ws) : 0 ≤ (opRd l).1 ∧ (opRd l).1 ≤ 1000 := by
  have := readO_rng l
  unfold opRd
  split
  · exact this
  · split <;> simp
theorem readM_err {tx : List UInt8} {long : Bool} {e : Int} (h : readM tx long = .err e) : 0 < e ∧ e ≤ 1000 := by
  unfold readM at h
  split at h
  · simp only [Rd.err.injEq] at h; omega
  · split at h
    · rename_i h2
      simp only [Rd.err.injEq] at h
      have : (splitW tx).err ≤ 162 := by cases splitW tx <;> simp [Ans.err]
      omega
    · generalize (splitW tx).ws = ws at h
      cases ws with
      | nil => cases h
      | cons x r =>
        unfold wishR at h
        simp only at h
        split at h
        · unfold reqR at h
          have := opRd_rng r
          split at h
          · simp only [Rd.err.injEq] at h; omega
          · cases h
        · split at h
          · unfold queR at h
            cases r with
            | nil => simp only [Rd.err.injEq] at h; omega
            | cons y r =>
              have := opRd_rng r
              simp only at h
              cases hn : numW y with
              | none => rw [hn] at h; simp only [Rd.err.injEq] at h; omega
              | some q =>
                rw [hn] at h
                simp only at h
                split at h
                · simp only [Rd.err.injEq] at h; omega
                · cases h
          · simp only [Rd.err.injEq] at h; omega
theorem Gt.noMs {G P : Nat} {s : Gs} {tl : List UInt8} {b m : Int} {cs : List Comp} {w : World} (h : Gt G P s tl b m cs w) : Gt G P s tl b m (msC (.slice none 0 0) [] :: cs) w := by
  obtain ⟨t, u, v, h⟩ := h
  exact ⟨t, u, v, ((All.addRow0 (e := 51) (size := 23) h).perm List.perm_middle.symm)⟩
theorem eq_nilF (W : World) : (binOp .eql 131 .nilFunc .nilFunc).run Tryz.prog W = .ok (.bool true) W := by kernel_rfl
theorem eq_fnF (W : World) (f : Fn) (x y : Array Value) : (binOp .eql 131 (.func f x y) .nilFunc).run Tryz.prog W = .ok (.bool false) W := by kernel_rfl
set_option maxHeartbeats 3200000 in
set_option maxRecDepth 1000000 in
/-- A finished line is heard. -/
theorem hear_gt {G P : Nat} {s : Gs} {tl : List UInt8} {b m : Int} {cs : List Comp} {w : World} {txv wsv tov : Value} (A : All (gtL G P s tl b m txv wsv tov ++ cs) w) (hs : s.ok) (E : Evs cs) (I : PxI s.x m s.n1 s.n2) (hno0 : 0 ≤ s.no) (hno1 : s.no ≤ 4611686018427387904) (hno : ∀ q ∈ s.ws, 0 ≤ q.no ∧ q.no ≤ 4611686018427387904) (hn : s.ws.length ≤ 16) (ht : tl.length ≤ 50000000000000) :
    Calls Tryz.prog 33 #[.pointer (some ⟨G, 3, none⟩), .agg #[.int .i64 s.no, txv, .bool s.long]] w fun e w' => ∃ v, e = .returned v ∧ Gt G P (hearM m s).s (tl ++ (hearM m s).tl) b m (msC v (hearM m s).ms :: cs) w' := by
  obtain ⟨L, hL⟩ : ∃ L, Hid (L = w.heap.size) := ⟨_, hid rfl⟩
  have A1 := A.addBlk [.int .i64 s.no, txv, .bool s.long] 74
  rw [← hL.out] at A1
  have A1 := hid (A1.perm (List.perm_middle (l₁ := gtL G P s tl b m txv wsv tov)).symm)
  have RD := hid (read_gt A1.out hs (E.cons _))
  have e33 : hearM m s = (match readM s.tx s.long with
    | .err e => ⟨s, [], refL s.no e⟩
    | .none => ⟨s, [], []⟩
    | .wish a w o => if s.ws.length = 16 then ⟨s, [], refL s.no 231⟩ else goM m { s with ws := s.ws ++ [⟨s.no, a, w, o⟩] } : Go) := rfl
  rw [e33]
  clear e33
  have KL : Hid (∀ W, All (gtL G P s tl b m txv wsv tov ++ (blkC L [.int .i64 s.no, txv, .bool s.long] 74 :: cs)) W → W.cell? ⟨L, 0, none⟩ = some (.int .i64 s.no) ∧ W.cell? ⟨L, 1, none⟩ = some txv ∧ W.cell? ⟨L, 2, none⟩ = some (.bool s.long)) := hid (fun W hW => ⟨(cell_at (hW.app).1.2.1 0).trans rfl, (cell_at (hW.app).1.2.1 1).trans rfl, (cell_at (hW.app).1.2.1 2).trans rfl⟩)
  have RF : Hid (∀ er W, 0 ≤ er → er ≤ 1000 → All (gtL G P s tl b m txv wsv tov ++ (blkC L [.int .i64 s.no, txv, .bool s.long] 74 :: cs)) W → Calls Tryz.prog 54 #[.pointer (some ⟨G, 3, none⟩), .int .i64 s.no, .int .i64 er] W fun e w' => e = .returned (.tuple #[]) ∧ Gt G P s (tl ++ refL s.no er) b m (msC (.slice none 0 0) [] :: cs) w') := hid (fun er W he1 he2 hW => by
      refine (refuse_gt ⟨_, _, _, hW⟩ (E.cons _).V hno0 hno1 he1 (by omega) (by omega)).mono ?_
      rintro e w' ⟨rfl, hG⟩
      exact ⟨rfl, hG.drop.noMs⟩)
  cases hR : readM s.tx s.long with
  | err er =>
    have he := readM_err hR
    rw [hR] at RD
    unfold rdG at RD
    have he' : (er != 0) = true := by simp; omega
    have RF := hid (fun W => RF.out er W (by omega) (by omega))
    dsimp only
    clear A hs E I hno hn ht hR he hno0 hno1
    generalize blkC L [.int .i64 s.no, txv, .bool s.long] 74 = BL at *
    go_enter Tryz.func33, Tryz.ntmps33
    go_upto_region 1 with fail
    simp only [← hL.out]
    generalize w.alloc (.cells #[.int .i64 s.no, txv, .bool s.long] 74) = w1 at *
    obtain ⟨k0, k1, k2⟩ := KL.out _ A1.out
    go_wp2_with (first | (go_at_call 53; refine RD.out.mono ?_; rintro e w2 ⟨rfl, A2⟩; have A3 := hid A2; obtain ⟨kl, _, _⟩ := KL.out _ A2; clear A2) | (go_at_call 54; refine (RF.out _ A3.out).mono ?_; rintro e w3 ⟨rfl, hG⟩; have hG := hid hG))
    go_ret
    exact ⟨_, rfl, hG.out⟩
  | none =>
    rw [hR] at RD
    unfold rdG at RD
    have fe := eq_nilF
    have DN : Hid (∀ W, All (gtL G P s tl b m txv wsv tov ++ (blkC L [.int .i64 s.no, txv, .bool s.long] 74 :: cs)) W → Gt G P s (tl ++ []) b m (msC (.slice none 0 0) [] :: cs) W) := hid (fun W hW => by rw [List.append_nil]; exact (Gt.drop ⟨_, _, _, hW⟩).noMs)
    dsimp only
    clear A hs E I hno hn ht hR hno0 hno1 RF
    generalize blkC L [.int .i64 s.no, txv, .bool s.long] 74 = BL at *
    go_enter Tryz.func33, Tryz.ntmps33
    go_upto_region 1 with fail
    simp only [← hL.out]
    generalize w.alloc (.cells #[.int .i64 s.no, txv, .bool s.long] 74) = w1 at *
    obtain ⟨k0, k1, k2⟩ := KL.out _ A1.out
    go_wp2_with (go_at_call 53; refine RD.out.mono ?_; rintro e w2 ⟨rfl, A2⟩; have A3 := hid (DN.out _ A2); clear A2)
    go_ret
    exact ⟨_, rfl, by simpa using A3.out⟩
  | wish a who o =>
    rw [hR] at RD
    unfold rdG at RD
    dsimp only at RD ⊢
    obtain ⟨aw, cw, rfl⟩ := owns_form A.tail.tail.tail.1.2.1
    have K5 : Hid (∀ W, All (gtL G P s tl b m txv (.slice aw s.ws.length cw) tov ++ (blkC L [.int .i64 s.no, txv, .bool s.long] 74 :: cs)) W → W.cell? ⟨G, 5, none⟩ = some (.slice aw s.ws.length cw)) := hid (fun W hW => Gt.cell hW 5)
    obtain ⟨nf, bv, hfn⟩ : ∃ nf bv, (Wi.mk 0 a who o).fn P = .func (.func nf) #[bv] #[] := by
      cases a with
      | false => exact ⟨_, _, Wi.fn_req rfl⟩
      | true => exact ⟨_, _, Wi.fn_que rfl⟩
    rw [hfn] at RD
    have fe := fun W => eq_fnF W (.func nf) #[bv] #[]
    by_cases h16 : s.ws.length = 16
    · rw [if_pos h16]
      have hl : ((s.ws.length : Int) == 16) = true := by simp; omega
      have RF := hid (fun W => RF.out 231 W (by omega) (by omega))
      clear A hs E I hno hn ht hR hno0 hno1 h16
      generalize blkC L [.int .i64 s.no, txv, .bool s.long] 74 = BL at *
      go_enter Tryz.func33, Tryz.ntmps33
      go_upto_region 1 with fail
      simp only [← hL.out]
      generalize w.alloc (.cells #[.int .i64 s.no, txv, .bool s.long] 74) = w1 at *
      obtain ⟨k0, k1, k2⟩ := KL.out _ A1.out
      go_wp2_with (first | (go_at_call 53; refine RD.out.mono ?_; rintro e w2 ⟨rfl, A2⟩; have A3 := hid A2; obtain ⟨kl, _, _⟩ := KL.out _ A2; have k5 := K5.out _ A2; clear A2) | (go_at_call 54; refine (RF.out _ A3.out).mono ?_; rintro e w3 ⟨rfl, hG⟩; have hG := hid hG))
      go_ret
      exact ⟨_, rfl, hG.out⟩
    · rw [if_neg h16]
      have hl : ((s.ws.length : Int) == 16) = false := by simp; omega
      clear RF
      go_enter Tryz.func33, Tryz.ntmps33
      go_upto_region 1 with fail
      simp only [← hL.out]
      generalize w.alloc (.cells #[.int .i64 s.no, txv, .bool s.long] 74) = w1 at *
      obtain ⟨k0, k1, k2⟩ := KL.out _ A1.out
      go_upto_region 2 with (go_at_call 53; refine RD.out.mono ?_; rintro e w2 ⟨rfl, A2⟩; have A3 := hid A2; obtain ⟨kl, _, _⟩ := KL.out _ A2; have k5 := K5.out _ A2; clear A2)
      obtain ⟨i1, hi1, hz0, hz1, hz2⟩ := info_parts Tryz.info136
      have A4 := A3.out.perm (List.perm_middle (l₁ := [_, _, _]))
      obtain ⟨ao5, c5, w5, hr5, A5⟩ := appN (c := 1) (m := 1) (news := [.int .i64 s.no, .func (.func nf) #[bv] #[]]) Tryz.underlying75 hi1 hz0 hz1 hz2 rfl (by decide) (A4.drew.alloc (.cells [Value.int .i64 s.no, .func (.func nf) #[bv] #[]].toArray 136)) (some ⟨w2.heap.size, 0, none⟩) rfl
        (fun _ => ⟨_, rfl, fun j u hu => by
          rw [Addr.add_lit, Nat.zero_add]
          exact (cell_at (heap_alloc_new w2.drew _) j).trans (by simpa using hu)⟩)
        (fun u hu => by simp only [List.mem_cons, List.not_mem_nil, or_false] at hu; rcases hu with rfl | rfl <;> rfl) (by unfold maxLen; omega) (by omega)
      have R5 := hid hr5
      have hws : s.ws.flatMap (Wi.cells P) ++ [.int .i64 s.no, .func (.func nf) #[bv] #[]] = (s.ws ++ [Wi.mk s.no a who o]).flatMap (Wi.cells P) := by
        rw [List.flatMap_append]
        congr 1
        simp only [List.flatMap_cons, List.flatMap_nil, List.append_nil]
        rw [← hfn]
        rfl
      rw [hws] at A5
      have A6 := A5.swap
      have c5' : w5.cell? ⟨G, 5, none⟩ = some (.slice aw s.ws.length cw) := (cell_at A6.1.2.1 5).trans rfl
      have f5' := free_at A6.1.2.1 5
      have A7 := (A6.setBlk 5 (.slice ao5 (s.ws.length + 1) c5)).perm (List.Perm.cons _ (perm3 _ _ _ _))
      have hl1 : (s.ws ++ [Wi.mk s.no a who o]).length = s.ws.length + 1 := by simp
      have G7 : Hid (Gt G P { s with ws := s.ws ++ [Wi.mk s.no a who o] } tl b m (blkC L [.int .i64 s.no, txv, .bool s.long] 74 :: cs) (w5.setCell ⟨G, 5, none⟩ (.slice ao5 (s.ws.length + 1) c5))) := hid ⟨txv, .slice ao5 (s.ws.length + 1) c5, tov, by
        have e : gtL G P { s with ws := s.ws ++ [Wi.mk s.no a who o] } tl b m txv (.slice ao5 (s.ws.length + 1) c5) tov = blkC G (gtV { s with ws := s.ws ++ [Wi.mk s.no a who o] } P txv (.slice ao5 (s.ws.length + 1) c5) tov) 79 :: ownC 5 txv (cellsB s.tx) :: ownC 5 tov (cellsB tl) :: rowC 136 2 (.slice ao5 (s.ws.length + 1) c5) (s.ws.length + 1) ((s.ws ++ [Wi.mk s.no a who o]).flatMap (Wi.cells P)) :: pxL P s.x b m s.n1 s.n2 := by unfold gtL wsC; rw [hl1]
        rw [e]
        exact A7⟩
      have GC : Hid (∀ W, Gt G P { s with ws := s.ws ++ [Wi.mk s.no a who o] } tl b m (blkC L [.int .i64 s.no, txv, .bool s.long] 74 :: cs) W → Calls Tryz.prog 55 #[.pointer (some ⟨G, 3, none⟩)] W fun e w' => ∃ v, e = .returned v ∧ Gt G P (goM m { s with ws := s.ws ++ [Wi.mk s.no a who o] }).s (tl ++ (goM m { s with ws := s.ws ++ [Wi.mk s.no a who o] }).tl) b m (msC v (goM m { s with ws := s.ws ++ [Wi.mk s.no a who o] }).ms :: cs) w') := hid (fun W hW => by
        refine (goOn_gt hW (E.cons _) I (fun q hq => ?_) (by show (s.ws ++ [Wi.mk s.no a who o]).length ≤ 16; rw [hl1]; omega) ht).mono ?_
        · rcases List.mem_append.1 hq with hq | hq
          · exact hno q hq
          · simp only [List.mem_cons, List.not_mem_nil, or_false] at hq
            subst hq
            exact ⟨hno0, hno1⟩
        · rintro e w' ⟨v, rfl, hG⟩
          exact ⟨v, rfl, (hG.perm (List.Perm.swap _ _ _)).drop⟩)
      have hGl : G < w2.heap.size := A3.out.1.2.2 G (by simp [blkC])
      have hLl : L < w2.heap.size := (A3.out.app).1.2.2 L (by simp [blkC])
      clear A6 A7 A5 A4 hr5 A hs E I hno hn ht hR hno0 hno1 h16 hws hl1 hfn A3 A1 RD KL K5 fe
      go_region_law (refine step_append_run (by rfl) _ _ 75 (by rfl) _ _ _ _ (by rfl) (by rfl) R5.out ?_)
      all_goals
        go_wp2_with (go_at_call 55; refine (GC.out _ G7.out).mono ?_; rintro e w6 ⟨v, rfl, hG⟩; have hG := hid hG)
        go_ret
        exact ⟨_, rfl, hG.out⟩
end Go.Proofs.YtdhkdniddjnigaaGreatDoor

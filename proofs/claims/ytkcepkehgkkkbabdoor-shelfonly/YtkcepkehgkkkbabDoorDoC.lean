import Derived.Test.YtkcepkehgkkkbabDoorDoB
namespace Go.Proofs.YtkcepkehgkkkbabDoor
open Go.RowKit
set_option linter.unusedVariables false

set_option maxRecDepth 1000000 in
/-- Do, of an op that may be. -/
theorem Do_any {N P : Nat} {S : St} (hS : OkS N S) (hN : N < 1152921504606846976) {cs : List Comp} {w : World} (ht : ∀ w', All (shL P S ++ cs) w' → Tab w') {k : Int} {nm tx : ByteArray} {n m : Int} (hk : chkA k nm.size tx.size n m = 0) (h : All (shL P S ++ cs) w) :
    Calls Tryd.prog 10 #[.pointer (some ⟨P, 0, none⟩), opV k nm tx n m] w fun e w' => ∃ S' c x items j so sc, e = .returned (.tuple #[resV c x (.slice so (List.length items) sc), .int .i64 j, .int .i64 0]) ∧ Deed S nm tx n m k S' c x items j ∧ All (shL P S' ++ (ownC 9 (.slice so items.length sc) (txtV items) :: cs)) w' := by
  have T := hid (done_start h nm tx n m k)
  have HK := hid hk
  have HS := hid hS
  have hT : Tab ((w.alloc (opB k nm tx n m)).alloc (.cells #[.int .i64 0, .int .i64 0, .slice none 0 0] 30)) := ht _ T.out.all.tail.tail
  have HT := hid hT
  clear h hk hT
  go_enter Tryd.func10, Tryd.ntmps10
  go_wp2_with fail
  refine (check_any HT.out k nm tx n m).mono ?_
  rw [HK.out]
  rintro e w2 ⟨rfl, B2⟩
  have T2 := hid (T.out.next B2)
  clear B2 T HT
  have o0 := T2.out.o0
  have o1 := T2.out.o1
  have o2 := T2.out.o2
  have o3 := T2.out.o3
  have o4 := T2.out.o4
  go_wp2_with fail
  refine (done_any HS.out hN HK.out T2.out.handed2).mono ?_
  rintro e w5 ⟨c, x, j, so, sn, sc, post, rfl, hG, A5⟩
  have A6 := hid (handed_back2 A5)
  have HG := hid hG
  clear A5 hG T2 o0 o1 o2 o3 o4
  have A7 := hid ((A6.out.setR (.int .i64 c) (.int .i64 x) (.slice so sn sc)).alloc (.cells #[.int .i64 c, .int .i64 x, .slice so sn sc] 30))
  have hR : w.heap.size + 1 < w5.heap.size := A6.out.1.2.2 _ (by simp [blkC])
  have r0 := A6.out.r0
  have r1 := A6.out.r1
  have r2 := A6.out.r2
  have g0 := A6.out.rf 0
  have g1 := A6.out.rf 1
  have g2 := A6.out.rf 2
  clear A6
  go_wp2
  generalize (((w5.setCell ⟨w.heap.size + 1, 0, none⟩ (.int .i64 c)).setCell ⟨w.heap.size + 1, 1, none⟩ (.int .i64 x)).setCell ⟨w.heap.size + 1, 2, none⟩ (.slice so sn sc)).alloc (.cells #[.int .i64 c, .int .i64 x, .slice so sn sc] 30) = w6 at A7 ⊢
  clear r0 r1 r2
  have r0 := A7.out.r0
  have r1 := A7.out.r1
  have r2 := A7.out.r2
  refine bodyPost_ret (v := .tuple #[resV c x (.slice so sn sc), .int .i64 j, .int .i64 0]) (by simp only [results, Tryd.f10]; go_simp) rfl ?_
  obtain ⟨S', items, so', sc', hv, rfl, hD⟩ := HG.out
  have A8 : All (shL P S' ++ (ownC 9 (.slice so sn sc) (txtV items) :: cs)) w6 := by simpa using A7.out.tail.tail
  rw [hv] at A8 ⊢
  exact ⟨S', c, x, items, j, so', sc', rfl, hD, A8⟩
set_option maxRecDepth 1000000 in
/-- Do, of an op that may not be. -/
theorem Do_bad {P : Nat} {cs : List Comp} {w : World} (hT : Tab w) {k : Int} {nm tx : ByteArray} {n m : Int} (hk : chkA k nm.size tx.size n m ≠ 0) (h : All cs w) :
    Calls Tryd.prog 10 #[.pointer (some ⟨P, 0, none⟩), opV k nm tx n m] w fun e w' => e = .returned (.tuple #[resV 0 0 (.slice none 0 0), .int .i64 0, .int .i64 (chkA k nm.size tx.size n m)]) ∧ All cs w' := by
  have H1 := hid ((h.alloc (opB k nm tx n m)).addBlk [.int .i64 0, .int .i64 0, .slice none 0 0] 30)
  have hsz : (w.alloc (opB k nm tx n m)).heap.size = w.heap.size + 1 := by simp
  rw [hsz] at H1
  have HK := hid hk
  have HT := hid (hT.below (b2 (ba w (opB k nm tx n m)) (ba (w.alloc (opB k nm tx n m)) (.cells [Value.int .i64 0, .int .i64 0, .slice none 0 0].toArray 30))))
  clear h hk hT hsz
  go_enter Tryd.func10, Tryd.ntmps10
  go_wp2_with fail
  refine (check_any HT.out k nm tx n m).mono ?_
  rintro e w2 ⟨rfl, B2⟩
  have H2 := hid (H1.out.later B2)
  have hne := HK.out
  clear B2 H1 HT HK
  generalize hck : chkA k nm.size tx.size n m = ck at hne ⊢
  have HCK := hid hck
  clear hck
  have e1 : (ck != 0) = true := by simpa using hne
  clear hne
  have r0 := H2.out.r0
  have r1 := H2.out.r1
  have r2 := H2.out.r2
  have g0 := H2.out.rf 0
  have g1 := H2.out.rf 1
  have g2 := H2.out.rf 2
  have AE := hid (H2.out.setR (.int .i64 0) (.int .i64 0) (.slice none 0 0))
  clear H2
  go_wp2
  generalize (((w2.setCell ⟨w.heap.size + 1, 0, none⟩ (.int .i64 0)).setCell ⟨w.heap.size + 1, 1, none⟩ (.int .i64 0)).setCell ⟨w.heap.size + 1, 2, none⟩ (.slice none 0 0)) = we at AE ⊢
  clear r0 r1 r2
  have r0 := AE.out.r0
  have r1 := AE.out.r1
  have r2 := AE.out.r2
  refine bodyPost_ret (v := .tuple #[resV 0 0 (.slice none 0 0), .int .i64 0, .int .i64 ck]) (by simp only [results, Tryd.f10]; go_simp) rfl ?_
  exact ⟨by rw [HCK.out], AE.out.tail⟩

set_option maxHeartbeats 1600000 in
set_option maxRecDepth 1000000 in
theorem sameTexts_q {w : World} {s t : Value} {l : List ByteArray} (hs : Txts w s l) (ht : Txts w t l) (hlen : l.length ≤ 140737488355328) :
    Calls Tryd.prog 22 #[s, t] w fun e w' => e = .returned (.bool true) ∧ ∃ q, w' = w.drewN q := by
  obtain ⟨ao, c, hf⟩ := hs.form
  obtain ⟨ao', c', hf'⟩ := ht.form
  subst hf hf'
  have HS := hid hs
  have HT := hid ht
  clear hs ht
  go_enter Tryd.func22, Tryd.ntmps22
  go_wp2
  go_loopw [5] (fun iv wr => ∃ (k q : Nat), k ≤ l.length ∧ iv = .int .i64 (k : Int) ∧ wr = w.drewN q) (fun iv _ => l.length - (intOf iv).toNat)
  case atStart => exact ⟨0, 0, by omega, rfl, rfl⟩
  case round =>
    obtain ⟨k, q, hk, rfl, rfl⟩ := hrel
    by_cases hlt : k < l.length
    · obtain ⟨g, o, rfl, _, h1⟩ := HS.out.at hlt
      obtain ⟨g', o', rfl, _, h2⟩ := HT.out.at hlt
      generalize l[k] = x at h1 h2
      have hb : (x.toList == x.toList) = true := by simp
      go_wp2
      go_region
      go_wp2
      go_roundw
      case rel => exact ⟨k + 1, q + 1, by omega, by go_num, by simp⟩
      case measure => simp [intOf]; omega
    · go_wp2
      go_ret
      exact ⟨rfl, _, rfl⟩

/-- A part of a list of texts. -/
theorem cut_txts {w : World} {ao : Option Addr} {c a b : Nat} {l : List ByteArray} (h : Txts w (.slice ao l.length c) l) (hb : a + b ≤ l.length) (hb0 : 0 < b) (x y : Int) (hx : x = (a : Int)) (hy : y = (a : Int) + (b : Int)) :
    ∃ ao' c', (∀ w' : World, (Instr.slice 28 (.slice ao l.length c) (some (.int .i64 x)) (some (.int .i64 y)) none).run Tryd.prog w' = .ok (.slice ao' b c') w') ∧ Txts w (.slice ao' b c') ((l.drop a).take b) := by
  obtain ⟨ao', c', e, hc, hx'⟩ := h
  simp only [Value.slice.injEq] at e
  obtain ⟨rfl, _, rfl⟩ := e
  rcases hx' with rfl | ⟨g, o, rfl, hg, hcell⟩
  · simp at hb; omega
  · have hl : ((l.drop a).take b).length = b := by simp; omega
    refine ⟨some ⟨g, o + a, none⟩, c - a, fun w' => ?_, ⟨_, _, by rw [hl], by omega, Or.inr ⟨g, o + a, rfl, hg, fun j hj => ?_⟩⟩⟩
    · rw [run_slice_lh w' 28 (some ⟨g, o, none⟩) l.length c (by kernel_rfl) .i64 .i64 x y (by omega) (by omega) (by omega)]
      have hs : (sizeOf (Tryd.prog.elem 28)).run Tryd.prog w' = .ok 1 w' := by kernel_rfl
      have e1 : x.toNat = a := by omega
      have e2 : y.toNat = a + b := by omega
      rw [hs, e1, e2]
      have hne : c ≠ a := by omega
      simp [sliced, Result.andThen, Addr.add_lit, hne]
    · have hj' : a + j < l.length := by rw [hl] at hj; omega
      have := hcell (a + j) hj'
      rw [Nat.add_assoc, this]
      simp

set_option maxHeartbeats 1600000 in
set_option maxRecDepth 1000000 in
/-- What is told was pushed. -/
theorem told_any {w : World} {sp sx : Value} {pushed items : List ByteArray} (c n : Int) (hp : Txts w sp pushed) (hx : Txts w sx items) (hpl : pushed.length ≤ 140737488355328) (hit : items.length ≤ 8) (hcond : items = [] ∨ ∃ a : Nat, n = (a : Int) ∧ a + items.length ≤ pushed.length ∧ (pushed.drop a).take items.length = items) :
    Calls Tryd.prog 16 #[sp, resV c n sx] w fun e w' => e = .returned (.bool true) ∧ Below w.heap.size w w' := by
  obtain ⟨ao, cp, rfl⟩ := hp.form
  obtain ⟨ao', cp', rfl⟩ := hx.form
  have B0 := hid (ba w (.cells #[.int .i64 c, .int .i64 n, .slice ao' items.length cp'] 30))
  by_cases h0 : items = []
  · subst h0
    clear hcond hp hx
    go_enter Tryd.func16, Tryd.ntmps16
    go_wp2
    go_ret
    exact ⟨rfl, B0.out⟩
  · have hlen : 0 < items.length := List.length_pos_iff.2 h0
    obtain ⟨a, hn, ha, hat⟩ : ∃ a : Nat, n = (a : Int) ∧ a + items.length ≤ pushed.length ∧ (pushed.drop a).take items.length = items := hcond.resolve_left h0
    subst hn
    generalize hW : w.alloc (.cells #[.int .i64 c, .int .i64 (a : Int), .slice ao' items.length cp'] 30) = w1 at B0
    have hb1 : w1.heap[w.heap.size]? = some (.cells #[.int .i64 c, .int .i64 (a : Int), .slice ao' items.length cp'] 30 (0, 0)) := by rw [← hW]; exact heap_alloc_new w _
    have TP := hid (hp.later B0.out)
    have TX := hid (hx.later B0.out)
    obtain ⟨co, cc, hcut, TC⟩ := cut_txts (a := a) (b := items.length) TP.out ha hlen (a : Int) (IntKind.i64.wrap ((a : Int) + (items.length : Int))) rfl (by simp [IntKind.wrap, IntKind.bits, IntKind.signed]; omega)
    rw [hat] at TC
    have ST : Hid (∀ q, Calls Tryd.prog 22 #[.slice ao' items.length cp', .slice co items.length cc] (w1.drewN q) fun e w' => e = .returned (.bool true) ∧ ∃ m, w' = (w1.drewN q).drewN m) := hid (fun q => sameTexts_q (TX.out.later (bdN w1 q)) (TC.later (bdN w1 q)) (by omega))
    have c1 : w1.cell? ⟨w.heap.size, 1, none⟩ = some (.int .i64 (a : Int)) := by rw [cell_at hb1]; rfl
    have c2 : w1.cell? ⟨w.heap.size, 2, none⟩ = some (.slice ao' items.length cp') := by rw [cell_at hb1]; rfl
    generalize hIL : items.length = L at *
    have eL : ((L : Int) == 0) = false := by rw [beq_eq_false_iff_ne]; omega
    have e1 : decide ((a : Int) < 0) = false := by simp
    have e2 : decide ((pushed.length : Int) < (a : Int) + (L : Int)) = false := by simp; omega
    have e3 : decide (pushed.length < a + L) = false := by simp; omega
    clear hcond hp hx h0 hat hb1 TP TX TC hIL
    go_enter Tryd.func16, Tryd.ntmps16
    go_wp2_with fail
    go_quiet (first | (go_at_call 22; exact Calls.quiet_of (ST.out _)))
    go_wp2
    go_ret
    exact ⟨rfl, B0.out.trans ((bdN w1 nq).mono B0.out.size)⟩
end Go.Proofs.YtkcepkehgkkkbabDoor

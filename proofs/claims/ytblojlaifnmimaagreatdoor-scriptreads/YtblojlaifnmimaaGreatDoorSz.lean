import Derived.Test.YtblojlaifnmimaaGreatDoorPr
namespace Go.Proofs.YtblojlaifnmimaaGreatDoor
open Go.RowKit
set_option linter.unusedVariables false

/-- A play as a value. -/
abbrev plV (c : List Int) (v : Value) : Value := .agg (cI c ++ [v]).toArray
theorem pl_range {B : Nat} {c : List Int} {v : Value} {cs : List Comp} {w : World} (h : All cs w) (hm : blkC B (cI c ++ [v]) 27 ∈ cs) (hc : c.length = 10) : w.rangeAt B 0 (cI c) ∧ w.cell? ⟨B, 10, none⟩ = some v ∧ B < w.heap.size := by
  have hb := (h.mem hm).2.1
  refine ⟨fun j u hu => ?_, ?_, (h.mem hm).2.2 B (by simp [blkC])⟩
  · rw [cell_at hb, Nat.zero_add, List.getElem?_toArray, List.getElem?_append_left (List.getElem?_eq_some_iff.1 hu).1]
    exact hu
  · rw [cell_at hb, List.getElem?_toArray, List.getElem?_append_right (by rw [cI_len, hc]; exact Nat.le_refl _), cI_len, hc]
    rfl
theorem Sps.form {w : World} {v : Value} {ss : List Sp} (h : Sps w v ss) : ∃ ao c, v = .slice ao ss.length c := by obtain ⟨ao, c, e, _⟩ := h; exact ⟨ao, c, e⟩
theorem Sps.at {w : World} {ao : Option Addr} {n c : Nat} {ss : List Sp} (h : Sps w (.slice ao n c) ss) {i : Nat} {x : Sp} (hx : ss[i]? = some x) : ∃ g o, ao = some ⟨g, o, none⟩ ∧ g < w.heap.size ∧ w.rangeAt g (o + i * 10) x.vals := by
  obtain ⟨ao', c', e, hc, hh⟩ := h
  simp only [Value.slice.injEq] at e
  obtain ⟨rfl, _, _⟩ := e
  exact hh i x hx
theorem ten_cells {w : World} {g o : Nat} {x : Sp} (h : w.rangeAt g o x.vals) : w.cell? ⟨g, o, none⟩ = some (.int .i64 x.k) ∧ w.cell? ⟨g, o + 1, none⟩ = some (.int .i64 x.a) ∧ w.cell? ⟨g, o + 2, none⟩ = some (.int .i64 x.b) ∧ w.cell? ⟨g, o + 3, none⟩ = some (.int .i64 x.x) ∧ w.cell? ⟨g, o + 4, none⟩ = some (.int .i64 x.y) ∧ w.cell? ⟨g, o + 5, none⟩ = some (.int .i64 x.o.k) ∧ w.cell? ⟨g, o + 6, none⟩ = some (.string ⟨x.o.nm.toArray⟩) ∧ w.cell? ⟨g, o + 7, none⟩ = some (.string ⟨x.o.tx.toArray⟩) ∧ w.cell? ⟨g, o + 8, none⟩ = some (.int .i64 x.o.n) ∧ w.cell? ⟨g, o + 9, none⟩ = some (.int .i64 x.o.m) :=
  ⟨h 0 _ rfl, h 1 _ rfl, h 2 _ rfl, h 3 _ rfl, h 4 _ rfl, h 5 _ rfl, h 6 _ rfl, h 7 _ rfl, h 8 _ rfl, h 9 _ rfl⟩

set_option maxHeartbeats 3200000 in
set_option maxRecDepth 1000000 in
theorem same_any {a b : List Int} {va vb : Value} {sa sb : List Sp} {cs : List Comp} {w : World} (A : All cs w) (ha : a.length = 10) (hb : b.length = 10) (hA : ∀ W, All cs W → Sps W va sa) (hB : ∀ W, All cs W → Sps W vb sb) (hn : sa.length ≤ 140737488355328) (hm : sb.length ≤ 140737488355328) :
    Calls Tryz.prog 11 #[plV a va, plV b vb] w fun e w' => e = .returned (.bool (decide (a = b ∧ sa = sb))) ∧ All cs w' := by
  obtain ⟨aa, ca, rfl⟩ := (hA w A).form
  obtain ⟨ab, cb, rfl⟩ := (hB w A).form
  unfold plV
  have A0 := hid ((A.addBlk (cI a ++ [Value.slice aa sa.length ca]) 27).addBlk (cI b ++ [Value.slice ab sb.length cb]) 27)
  have esz : (w.alloc (.cells (cI a ++ [Value.slice aa sa.length ca]).toArray 27)).heap.size = w.heap.size + 1 := by simp
  rw [esz] at A0
  have PR : Hid (∀ W, All (blkC (w.heap.size + 1) (cI b ++ [Value.slice ab sb.length cb]) 27 :: blkC w.heap.size (cI a ++ [Value.slice aa sa.length ca]) 27 :: cs) W → (W.rangeAt w.heap.size 0 (cI a) ∧ W.cell? ⟨w.heap.size, 10, none⟩ = some (.slice aa sa.length ca) ∧ w.heap.size < W.heap.size) ∧ (W.rangeAt (w.heap.size + 1) 0 (cI b) ∧ W.cell? ⟨w.heap.size + 1, 10, none⟩ = some (.slice ab sb.length cb) ∧ w.heap.size + 1 < W.heap.size)) := hid (fun W h => ⟨pl_range h (.tail _ (.head _)) ha, pl_range h (.head _) hb⟩)
  have I1 : Hid ((Tryz.prog.info? 24).map (·.size) = some (cI a).length) := hid (by rw [Tryz.i24, cI_len, ha])
  have I2 : Hid ((Tryz.prog.info? 24).map (·.size) = some (cI b).length) := hid (by rw [Tryz.i24, cI_len, hb])
  have EQ := eq24 ha hb
  obtain ⟨⟨r1, y1, z1⟩, ⟨r2, y2, z2⟩⟩ := PR.out _ A0.out
  have R1 := hid r1
  have R2 := hid r2
  clear r1 r2
  have GA : Hid (∀ W i x, All cs W → sa[i]? = some x → ∃ g o, aa = some ⟨g, o, none⟩ ∧ W.rangeAt g (o + i * 10) x.vals) := hid (fun W i x h hx => by
    obtain ⟨g, o, e, _, hr⟩ := (hA W h).at hx
    exact ⟨g, o, e, hr⟩)
  have GB : Hid (∀ W i x, All cs W → sb[i]? = some x → ∃ g o, ab = some ⟨g, o, none⟩ ∧ W.rangeAt g (o + i * 10) x.vals) := hid (fun W i x h hx => by
    obtain ⟨g, o, e, _, hr⟩ := (hB W h).at hx
    exact ⟨g, o, e, hr⟩)
  clear hA hB A esz
  generalize hPA : cI a ++ [Value.slice aa sa.length ca] = PA at *
  generalize hPB : cI b ++ [Value.slice ab sb.length cb] = PB at *
  clear hPA hPB
  by_cases hab : a = b
  · have e1 : decide (a = b ∧ sa = sb) = decide (sa = sb) := by simp [hab]
    rw [e1]
    rw [decide_eq_true hab] at EQ
    clear e1 ha hb hab
    generalize cI a = CA at *
    generalize cI b = CB at *
    by_cases hl : sa.length = sb.length
    · have hl' : ((sa.length : Int) != (sb.length : Int)) = false := by simp [hl]
      generalize hD : decide (sa = sb) = DD at *
      have HD := hid hD
      clear hD
      have HL := hid hl
      clear hl
      generalize hna : sa.length = na at *
      generalize hnb : sb.length = nb at *
      have HNA := hid hna
      have HNB := hid hnb
      clear hna hnb
      go_enter Tryz.func11, Tryz.ntmps11
      go_wp2_with (first | (refine wpList_load_mid rfl 24 _ rfl w.heap.size 0 rfl CA _ R1.out Tryz.underlying24 rfl I1.out ?_) | (refine wpList_load_mid rfl 24 _ rfl (w.heap.size + 1) 0 rfl CB _ R2.out Tryz.underlying24 rfl I2.out ?_))
      clear y1 y2 z1 z2 R1 R2 EQ
      generalize hW : (w.alloc (.cells PA.toArray 27)).alloc (.cells PB.toArray 27) = w0 at *
      clear hW
      generalize w.heap.size + 1 = BB at *
      generalize w.heap.size = AA at *
      go_loopw [5] (fun iv wr => ∃ k : Nat, k ≤ na ∧ iv = .int .i64 (k : Int) ∧ Hid (∀ j, j < k → sa[j]? = sb[j]?) ∧ Hid (All (blkC BB PB 27 :: blkC AA PA 27 :: cs) wr)) (fun iv _ => na - (intOf iv).toNat)
      case atStart => exact ⟨0, by omega, rfl, fun j hj => by omega, A0⟩
      case round =>
        obtain ⟨k, hk, rfl, hall, HA⟩ := hrel
        clear A0
        obtain ⟨⟨_, y1, z1⟩, ⟨_, y2, z2⟩⟩ := PR.out _ HA.out
        by_cases hlt : k < na
        · have hlt' : (k : Int) < (na : Int) := by omega
          have hltb : (k : Int) < (nb : Int) := by have := HL.out; omega
          have hltb' : k < nb := by have := HL.out; omega
          obtain ⟨x, hx⟩ : ∃ x, sa[k]? = some x := ⟨_, List.getElem?_eq_getElem (by rw [HNA.out]; exact hlt)⟩
          obtain ⟨z, hz⟩ : ∃ z, sb[k]? = some z := ⟨_, List.getElem?_eq_getElem (by rw [HNB.out]; exact hltb')⟩
          obtain ⟨g, o, rfl, hr1⟩ := GA.out wr k x HA.out.tail.tail hx
          obtain ⟨g', o', rfl, hr2⟩ := GB.out wr k z HA.out.tail.tail hz
          obtain ⟨a0, a1, a2, a3, a4, a5, a6, a7, a8, a9⟩ := ten_cells hr1
          obtain ⟨b0, b1, b2, b3, b4, b5, b6, b7, b8, b9⟩ := ten_cells hr2
          have EE := eq43 x z
          have EX : Hid (∀ DX, (∀ W, (Op.equalIn 10000 43 (.agg x.vals.toArray) (.agg z.vals.toArray)).run Tryz.prog W = .ok DX W) → ∀ W, (Op.equalIn 10000 43 (.agg #[.int .i64 x.k, .int .i64 x.a, .int .i64 x.b, .int .i64 x.x, .int .i64 x.y, .int .i64 x.o.k, .string ⟨x.o.nm.toArray⟩, .string ⟨x.o.tx.toArray⟩, .int .i64 x.o.n, .int .i64 x.o.m]) (.agg #[.int .i64 z.k, .int .i64 z.a, .int .i64 z.b, .int .i64 z.x, .int .i64 z.y, .int .i64 z.o.k, .string ⟨z.o.nm.toArray⟩, .string ⟨z.o.tx.toArray⟩, .int .i64 z.o.n, .int .i64 z.o.m])).run Tryz.prog W = .ok DX W) := hid (fun DX h => h)
          have EZ := EX.out _ EE
          have XZ : Hid (decide (x = z) = true → sa[k]? = sb[k]?) := hid (fun h => by rw [hx, hz, of_decide_eq_true h])
          have XN : Hid (decide (x = z) = false → DD = false) := hid (fun h => by
            rw [← HD.out]
            refine decide_eq_false (fun e => ?_)
            rw [e, hz] at hx
            simp only [Option.some.injEq] at hx
            exact of_decide_eq_false h hx.symm)
          clear EX EE hr1 hr2 hx hz
          generalize decide (x = z) = DX at *
          generalize ByteArray.mk x.o.nm.toArray = X1 at *
          generalize ByteArray.mk x.o.tx.toArray = X2 at *
          generalize ByteArray.mk z.o.nm.toArray = Z1 at *
          generalize ByteArray.mk z.o.tx.toArray = Z2 at *
          cases DX with
          | true =>
            have nx : Hid (∀ j, j < k + 1 → sa[j]? = sb[j]?) := hid (fun j hj => by
              by_cases hjk : j < k
              · exact hall.out j hjk
              · have : j = k := by omega
                subst this
                exact XZ.out rfl)
            go_wp2
            go_quiet (fail)
            go_wp2
            go_roundw
            case rel => exact ⟨k + 1, by omega, by go_num, nx, hid (HA.out.drewN _)⟩
            case measure => simp [intOf]; omega
          | false =>
            have fin := hid (XN.out rfl)
            go_wp2
            go_quiet (fail)
            go_wp2
            go_ret
            exact ⟨by rw [fin.out]; rfl, (HA.out.drewN _).tail.tail⟩
        · have hlt' : ¬ (k : Int) < (na : Int) := by omega
          have fin : Hid (DD = true) := hid (by
            rw [← HD.out]
            refine decide_eq_true (List.ext_getElem? (fun j => ?_))
            by_cases hj : j < k
            · exact hall.out j hj
            · rw [List.getElem?_eq_none (by rw [HNA.out]; omega), List.getElem?_eq_none (by rw [HNB.out, ← HL.out]; omega)])
          go_wp2
          go_ret
          exact ⟨by rw [fin.out]; rfl, HA.out.tail.tail⟩
    · have hl' : ((sa.length : Int) != (sb.length : Int)) = true := by simp; omega
      have e2 : decide (sa = sb) = false := decide_eq_false (fun e => hl (by rw [e]))
      rw [e2]
      clear e2 hl GA GB
      generalize sa.length = na at *
      generalize sb.length = nb at *
      go_enter Tryz.func11, Tryz.ntmps11
      go_wp2_with (first | (refine wpList_load_mid rfl 24 _ rfl w.heap.size 0 rfl CA _ R1.out Tryz.underlying24 rfl I1.out ?_) | (refine wpList_load_mid rfl 24 _ rfl (w.heap.size + 1) 0 rfl CB _ R2.out Tryz.underlying24 rfl I2.out ?_))
      go_ret
      exact ⟨rfl, A0.out.tail.tail⟩
  · have e1 : decide (a = b ∧ sa = sb) = false := decide_eq_false (fun e => hab e.1)
    rw [e1]
    rw [decide_eq_false hab] at EQ
    clear e1 ha hb hab GA GB
    generalize cI a = CA at *
    generalize cI b = CB at *
    generalize sa.length = na at *
    generalize sb.length = nb at *
    go_enter Tryz.func11, Tryz.ntmps11
    go_wp2_with (first | (refine wpList_load_mid rfl 24 _ rfl w.heap.size 0 rfl CA _ R1.out Tryz.underlying24 rfl I1.out ?_) | (refine wpList_load_mid rfl 24 _ rfl (w.heap.size + 1) 0 rfl CB _ R2.out Tryz.underlying24 rfl I2.out ?_))
    go_ret
    exact ⟨rfl, A0.out.tail.tail⟩
end Go.Proofs.YtblojlaifnmimaaGreatDoor

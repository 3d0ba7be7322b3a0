import Derived.Test.YthnccpbgccmapaaDoorRef
import Derived.Test.YthnccpbgccmapaaDoorSumLaw
namespace Go.Proofs.YthnccpbgccmapaaDoor
open Go.RowKit
set_option linter.unusedVariables false

theorem Reads.some_cells {w : World} {a : Addr} {n c : Nat} {l : List UInt8} (h : Reads w (.slice (some a) n c) l) : n = l.length ∧ ∀ j u, (cellsB l)[j]? = some u → w.cell? (a.add j) = some u := by
  obtain ⟨ao, c0, e, _, hcase⟩ := h
  simp only [Value.slice.injEq] at e
  obtain ⟨rfl, rfl, rfl⟩ := e
  refine ⟨rfl, fun j u hu => ?_⟩
  rcases hcase with ⟨rfl, _⟩ | ⟨g, o, e', hg, hcell⟩
  · simp [cellsB] at hu
  · simp only [Option.some.injEq] at e'
    subst e'
    rw [Addr.add_lit]
    exact hcell j u hu

theorem Reads.none_nil {w : World} {n c : Nat} {l : List UInt8} (h : Reads w (.slice none n c) l) : l = [] ∧ c = 0 ∧ n = 0 := by
  obtain ⟨ao, c0, e, _, hcase⟩ := h
  simp only [Value.slice.injEq] at e
  obtain ⟨rfl, rfl, rfl⟩ := e
  rcases hcase with ⟨rfl, h0⟩ | ⟨g, o, e', hg, hcell⟩
  · exact ⟨rfl, h0 rfl, rfl⟩
  · cases e'

/-- Bytes, whatever slice they came in, are appended to a list of one's own. -/
theorem wpList_append_bytes {w : World} {ops : Array Oper} {rest : List Oper} {o : Oper} {a : Act} {Q : Exit → Act → World → Prop} (hgd : o.guard = none) (s x : Operand)
    (ho : o.op = .call { callee := .builtin .append, args := #[s, x], argTypes := #[22, 22] })
    (base : Nat) (v : Value) (xs l : List UInt8) (sv : Value) (hs : a.eval s = v) (hx : a.eval x = sv) (hown : w.ownsRow base 5 1 v xs.length (cellsB xs)) (hr : Reads w sv l)
    (hb : xs.length + l.length ≤ 140737488355328) (hbase : base ≤ w.heap.size)
    (h : ∀ v' w', w'.ownsRow base 5 1 v' (xs ++ l).length (cellsB (xs ++ l)) → w.grownBy w' v.ownBlock → (v'.ownBlock = v.ownBlock ∨ v'.ownBlock = some w.heap.size) → wpList Tryd.prog ops Q rest (a.put o.dst v') w') :
    wpList Tryd.prog ops Q (o :: rest) a w := by
  obtain ⟨i0, hi, hz0, hz1, hz2⟩ := info_parts Tryd.info5
  obtain ⟨ao, c, hf⟩ := hr.form
  subst hf
  cases ao with
  | none =>
    obtain ⟨rfl, rfl, _⟩ := hr.none_nil
    refine wpList_append_own_none hgd s x 22 ho base 5 i0 1 Tryd.underlying22 hi v xs.length (cellsB xs) hs hown hx ?_
    refine h v w ?_ ⟨rfl, rfl, rfl, Nat.le_refl _, fun _ _ _ => rfl⟩ (Or.inl rfl)
    simpa using hown
  | some ad =>
    obtain ⟨_, hcell⟩ := hr.some_cells
    refine wpList_append_own_at _ hgd s x 22 ho base 5 i0 (.int .u8 0) 1 1 Tryd.underlying22 hi hz0 hz1 hz2 rfl (by decide) v xs.length (cellsB xs) hs hown ad l.length c (cellsB l) hx (by rw [cellsB_length]; omega) hcell (cellsB_one _) (by unfold maxLen; omega) (by omega) hbase ?_
    intro v' w' h1 h2 _ h4
    exact h v' w' (by rw [List.length_append, cellsB_append]; exact h1) h2 h4

theorem i64_and_255 (a : Nat) (ha : a < 2 ^ 62) : bits .and .i64 (a : Int) 255 = ((a % 256 : Nat) : Int) := by
  have h1 : (BitVec.ofInt 64 (a : Int)).toNat = a := by
    rw [BitVec.ofInt_natCast, BitVec.toNat_ofNat]; exact Nat.mod_eq_of_lt (by omega)
  have h2 : (BitVec.ofInt 64 (255 : Int)).toNat = 255 := by decide
  show IntKind.i64.wrap ((BitVec.ofInt 64 (a : Int) &&& BitVec.ofInt 64 (255 : Int)).toNat : Int) = _
  rw [BitVec.toNat_and, h1, h2, Nat.and_two_pow_sub_one_eq_mod a 8]
  simp [IntKind.wrap, IntKind.bits, IntKind.signed]
  omega

theorem grown_below' {w0 w w1 : World} {v : Value} {base n : Nat} {xs : List Value} (hb : Below w0.heap.size w0 w) (h : w.ownsRow base 5 1 v n xs) (hbase : w0.heap.size ≤ base) (hg : w.grownBy w1 v.ownBlock) : Below w0.heap.size w0 w1 :=
  hb.grown hg hb.size (fun j hj => Nat.le_trans hbase (h.lt j hj).1)

theorem owns_new (w : World) (bs : List UInt8) (cs : Array Value) (n : Nat) (hn : n = bs.length) (hcs : cs = (cellsB bs).toArray) (hl : bs.length ≤ 1000) : (w.alloc (.cells cs 5)).ownsRow w.heap.size 5 1 (.slice (some ⟨w.heap.size, 0, none⟩) n n) bs.length (cellsB bs) := by
  subst hn hcs
  exact owns_blk (heap_alloc_new w _) (Nat.le_refl _) (by omega)

set_option maxHeartbeats 3200000 in
set_option maxRecDepth 1000000 in
theorem refSeal_fits {w : World} {s : Value} {l : List UInt8} (h : Reads w s l) (hl : l.length ≤ 65536) :
    Calls Tryd.prog 35 #[s] w fun e w' => ∃ v, e = .returned (.tuple #[v, .int .i64 0]) ∧ w'.ownsRow w.heap.size 5 1 v (sealP l).length (cellsB (sealP l)) ∧ Below w.heap.size w w' := by
  obtain ⟨ao, c, hf⟩ := h.form
  subst hf
  have HH := hid h
  clear h
  have E1 := i64_and_255 l.length (by omega)
  have E2 := i64_and_255 (l.length / 256) (by omega)
  have E3 := i64_and_255 (l.length / 65536) (by omega)
  have e1 : l.length % 256 = (byteN l.length 0).toNat := by rw [byteN_nat]; simp
  have e2 : l.length / 256 % 256 = (byteN l.length 1).toNat := by rw [byteN_nat]
  have e3 : l.length / 65536 % 256 = (byteN l.length 2).toNat := by rw [byteN_nat]
  rw [e1] at E1
  rw [e2] at E2
  rw [e3] at E3
  have b1 := (byteN l.length 0).toNat_lt
  have b2 := (byteN l.length 1).toNat_lt
  have b3 := (byteN l.length 2).toNat_lt
  clear e1 e2 e3
  have E2' : bits .and .i64 ((l.length : Int) / 256) 255 = ((byteN l.length 1).toNat : Int) := E2
  have E3' : bits .and .i64 ((l.length : Int) / 65536) 255 = ((byteN l.length 2).toNat : Int) := E3
  have hlead := hid (show (#[.int .u8 70, .int .u8 76, .int .u8 ((byteN l.length 0).toNat : Int), .int .u8 ((byteN l.length 1).toNat : Int), .int .u8 ((byteN l.length 2).toNat : Int)] : Array Value) = (cellsB (leadP l.length)).toArray from rfl)
  clear E2 E3
  generalize (byteN l.length 0).toNat = x0 at *
  generalize (byteN l.length 1).toNat = x1 at *
  generalize (byteN l.length 2).toNat = x2 at *
  have O1 := hid (owns_new w (leadP l.length) _ 5 rfl hlead.out (by rw [leadP_length]; omega))
  have R1 := hid (Reads.of_owns O1.out)
  have B1 := hid (ba w (.cells #[.int .u8 70, .int .u8 76, .int .u8 (x0 : Int), .int .u8 (x1 : Int), .int .u8 (x2 : Int)] 5))
  go_enter Tryd.func35, Tryd.ntmps35
  go_wp2_with fail
  refine (refSum_any R1.out (by rw [leadP_length]; omega)).mono ?_
  rintro e w2 ⟨rfl, rfl⟩
  have hsl := sumN_lt (leadP l.length)
  generalize hs : sumN (leadP l.length) = s1 at *
  have HS := hid hs
  clear hs
  generalize w.alloc (.cells #[.int .u8 70, .int .u8 76, .int .u8 (x0 : Int), .int .u8 (x1 : Int), .int .u8 (x2 : Int)] 5) = w1 at *
  go_wp2
  go_loopw [5, 7] (fun bv iv wr => ∃ j : Nat, j ≤ 4 ∧ iv = .int .i64 (j : Int) ∧ Hid (wr.ownsRow w.heap.size 5 1 bv (leadP l.length ++ (sumB s1).take j).length (cellsB (leadP l.length ++ (sumB s1).take j)) ∧ Below w.heap.size w wr)) (fun _ iv _ => 4 - (intOf iv).toNat)
  case atStart => exact ⟨0, by omega, rfl, by simpa using O1.out, B1.out⟩
  case round =>
    obtain ⟨j, hj, rfl, hrel⟩ := hrel
    obtain ⟨xo, yo, hv⟩ := owns_form hrel.out.1
    subst hv
    have hln : (leadP l.length ++ (sumB s1).take j).length ≤ 9 := by simp [leadP_length, sumB_length]; omega
    by_cases hlt : j < 4
    · have hnx := hid (show (sumB s1).take (j + 1) = (sumB s1).take j ++ [byteN s1 j] by
        rw [List.take_succ_eq_append_getElem (by rw [sumB_length]; exact hlt)]
        have := sumB_at s1 j hlt
        rw [List.getD_eq_getElem?_getD, List.getElem?_eq_getElem (by rw [sumB_length]; exact hlt)] at this
        have e : (sumB s1)[j]'(by rw [sumB_length]; exact hlt) = byteN s1 j := by simpa using this
        rw [e])
      go_wp2_with fail
      refine (sumByte_any s1 j hsl hlt).mono ?_
      rintro e w3 ⟨rfl, rfl⟩
      have hrow := hrel.out.1.alloc (.cells #[.int .u8 ((byteN s1 j).toNat : Int)] 5)
      have hrd := hid (reads_new w3 [byteN s1 j] #[.int .u8 ((byteN s1 j).toNat : Int)] (0, 0) 1 rfl rfl)
      have hsz := hrel.out.2.size
      have HR := hid hrel.out
      clear hrel
      generalize hX : leadP l.length ++ (sumB s1).take j = X at *
      have HX := hid hX
      clear hX
      go_wp2_with (at_builtin; refine wpList_append_bytes rfl (.tmp 32) (.tmp 36) rfl w.heap.size _ X [byteN s1 j] _ rfl rfl hrow hrd.out (by simp; omega) (by simp; omega) ?_)
      intro v' w4 hown hg hat
      have R := hid (show w4.ownsRow w.heap.size 5 1 v' (leadP l.length ++ (sumB s1).take (j + 1)).length (cellsB (leadP l.length ++ (sumB s1).take (j + 1))) ∧ Below w.heap.size w w4 from by
        rw [hnx.out, ← List.append_assoc, HX.out]
        exact ⟨by rw [List.length_append]; exact hown, owns_grown HR.out.1 hg HR.out.2 (Nat.le_refl _)⟩)
      obtain ⟨xn, yn, hv⟩ := owns_form hown
      subst hv
      clear hown hg hat hrow hrd HR
      go_wp2
      go_roundw
      case rel => exact ⟨j + 1, by omega, by go_num, R⟩
      case measure => simp [intOf]; omega
    · have hj4 : j = 4 := by omega
      have e4 : (sumB s1).take j = sumB s1 := by rw [hj4]; exact List.take_of_length_le (by rw [sumB_length]; omega)
      rw [e4] at hrel hln ⊢
      clear e4 hj4
      have O2 := hid hrel.out
      have R2 := hid (HH.out.below O2.out.2)
      have hrow := O2.out.1
      have hsz := O2.out.2.size
      clear hrel
      generalize hX : leadP l.length ++ sumB s1 = X at *
      have HX := hid hX
      clear hX
      go_wp2_with (at_builtin; refine wpList_append_bytes rfl (.tmp 38) (.tmp 39) rfl w.heap.size _ X l _ rfl rfl hrow R2.out (by omega) (by omega) ?_)
      intro v' w4 hown hg hat
      have O3 := hid (show w4.ownsRow w.heap.size 5 1 v' (X ++ l).length (cellsB (X ++ l)) ∧ Below w.heap.size w w4 from ⟨by rw [List.length_append]; exact hown, grown_below' O2.out.2 O2.out.1 (Nat.le_refl _) hg⟩)
      have R3 := hid (HH.out.below O3.out.2)
      obtain ⟨xn, yn, hv⟩ := owns_form hown
      subst hv
      clear hown hg hat hrow O2 R2
      go_wp2_with fail
      refine (refSum_any R3.out (by omega)).mono ?_
      rintro e w5 ⟨rfl, rfl⟩
      have hsl2 := sumN_lt l
      generalize hs : sumN l = s2 at *
      have HS2 := hid hs
      clear hs
      generalize hY : X ++ l = Y at *
      have hYl : Y.length ≤ 9 + l.length := by rw [← hY, List.length_append]; omega
      have HY := hid hY
      clear hY
      go_wp2
      go_loopw [5, 8] (fun bv iv wr => ∃ j : Nat, j ≤ 4 ∧ iv = .int .i64 (j : Int) ∧ Hid (wr.ownsRow w.heap.size 5 1 bv (Y ++ (sumB s2).take j).length (cellsB (Y ++ (sumB s2).take j)) ∧ Below w.heap.size w wr)) (fun _ iv _ => 4 - (intOf iv).toNat)
      case atStart => exact ⟨0, by omega, rfl, by simpa using O3.out.1, O3.out.2⟩
      case round =>
        obtain ⟨j, hj, rfl, hrel⟩ := hrel
        obtain ⟨xo, yo, hv⟩ := owns_form hrel.out.1
        subst hv
        have hln : (Y ++ (sumB s2).take j).length ≤ 13 + l.length := by simp [sumB_length]; omega
        by_cases hlt : j < 4
        · have hnx := hid (show (sumB s2).take (j + 1) = (sumB s2).take j ++ [byteN s2 j] by
            rw [List.take_succ_eq_append_getElem (by rw [sumB_length]; exact hlt)]
            have := sumB_at s2 j hlt
            rw [List.getD_eq_getElem?_getD, List.getElem?_eq_getElem (by rw [sumB_length]; exact hlt)] at this
            have e : (sumB s2)[j]'(by rw [sumB_length]; exact hlt) = byteN s2 j := by simpa using this
            rw [e])
          go_wp2_with fail
          refine (sumByte_any s2 j hsl2 hlt).mono ?_
          rintro e w6 ⟨rfl, rfl⟩
          have hrow := hrel.out.1.alloc (.cells #[.int .u8 ((byteN s2 j).toNat : Int)] 5)
          have hrd := hid (reads_new w6 [byteN s2 j] #[.int .u8 ((byteN s2 j).toNat : Int)] (0, 0) 1 rfl rfl)
          have hsz := hrel.out.2.size
          have HR := hid hrel.out
          clear hrel
          generalize hZ : Y ++ (sumB s2).take j = Z at *
          have HZ := hid hZ
          clear hZ
          go_wp2_with (at_builtin; refine wpList_append_bytes rfl (.tmp 47) (.tmp 51) rfl w.heap.size _ Z [byteN s2 j] _ rfl rfl hrow hrd.out (by simp; omega) (by simp; omega) ?_)
          intro v' w7 hown hg hat
          have R := hid (show w7.ownsRow w.heap.size 5 1 v' (Y ++ (sumB s2).take (j + 1)).length (cellsB (Y ++ (sumB s2).take (j + 1))) ∧ Below w.heap.size w w7 from by
            rw [hnx.out, ← List.append_assoc, HZ.out]
            exact ⟨by rw [List.length_append]; exact hown, owns_grown HR.out.1 hg HR.out.2 (Nat.le_refl _)⟩)
          obtain ⟨xn, yn, hv⟩ := owns_form hown
          subst hv
          clear hown hg hat hrow hrd HR
          go_wp2
          go_roundw
          case rel => exact ⟨j + 1, by omega, by go_num, R⟩
          case measure => simp [intOf]; omega
        · have hj4 : j = 4 := by omega
          have e4 : (sumB s2).take j = sumB s2 := by rw [hj4]; exact List.take_of_length_le (by rw [sumB_length]; omega)
          have e : Y ++ sumB s2 = sealP l := by rw [← HY.out, ← HX.out, ← HS.out, ← HS2.out]; simp [sealP]
          rw [e4, e] at hrel ⊢
          clear e4 e hj4 hln
          generalize hZ : sealP l = Z at *
          have HZ := hid hZ
          clear hZ
          go_wp2
          go_ret2
          exact ⟨_, rfl, by rw [HZ.out]; exact hrel.out⟩

set_option maxHeartbeats 1600000 in
set_option maxRecDepth 1000000 in
theorem refSeal_long {w : World} {s : Value} {l : List UInt8} (h : Reads w s l) (hl : 65536 < l.length) (hlen : l.length ≤ 140737488351232) :
    Calls Tryd.prog 35 #[s] w fun e w' => e = .returned (.tuple #[.slice none 0 0, .int .i64 20]) ∧ w' = w := by
  obtain ⟨ao, c, hf⟩ := h.form
  subst hf
  clear h
  go_enter Tryd.func35, Tryd.ntmps35
  go_wp2
  go_ret2
  exact ⟨rfl, rfl⟩

theorem refSeal_any {w : World} {s : Value} {l : List UInt8} (h : Reads w s l) (hlen : l.length ≤ 140737488351232) :
    Calls Tryd.prog 35 #[s] w fun e w' => ∃ v, e = .returned (.tuple #[v, .int .i64 ((sealA l).2 : Int)]) ∧ w'.ownsRow w.heap.size 5 1 v (sealA l).1.length (cellsB (sealA l).1) ∧ Below w.heap.size w w' := by
  by_cases hl : 65536 < l.length
  · have e : sealA l = ([], 20) := by unfold sealA; rw [if_pos hl]
    refine (refSeal_long h hl hlen).mono ?_
    rintro e w' ⟨rfl, rfl⟩
    rw [‹sealA l = _›]
    exact ⟨_, rfl, owns_nil _ _, Below.refl _ _⟩
  · have e : sealA l = (sealP l, 0) := by unfold sealA; rw [if_neg hl]
    refine (refSeal_fits h (by omega)).mono ?_
    rintro e w' ⟨v, rfl, ho, hbel⟩
    rw [‹sealA l = _›]
    exact ⟨_, rfl, ho, hbel⟩
end Go.Proofs.YthnccpbgccmapaaDoor

import Derived.Test.YtdhkdniddjnigaaGreatDoorJoin2
import Derived.Deep.RegionHeld3
namespace Go.Proofs.YtdhkdniddjnigaaGreatDoor
open Go.RowKit
set_option linter.unusedVariables false

theorem cells_new {W : World} (m : List UInt8) : ∀ j u, (cellsB m)[j]? = some u → (W.alloc (.cells (cellsB m).toArray 5)).cell? ((⟨W.heap.size, 0, none⟩ : Addr).add j) = some u := by
  intro j u hu
  rw [Addr.add_lit, cell_at (heap_alloc_new W _)]
  simpa using hu
/-- Bytes laid behind one's own. -/
theorem app_bytes {W : World} {v : Value} {l : List UInt8} {cs : List Comp} (A : All (ownC 5 v (cellsB l) :: cs) W) (m : List UInt8) (h0 : 0 < m.length) (hl : l.length + m.length ≤ 140737488355328) :
    ∃ ao c w', (Builtin.append_ #[40, 40] 40 #[v, .slice (some ⟨W.heap.size, 0, none⟩) m.length m.length]).run Tryz.prog (W.alloc (.cells (cellsB m).toArray 5)) = .ok (.slice ao (l.length + m.length) c) w' ∧ All (ownC 5 (.slice ao (l.length + m.length) c) (cellsB (l ++ m)) :: cs) w' := by
  obtain ⟨i1, hi1, hz0, hz1, hz2⟩ := info_parts Tryz.info5
  have A1 := A.alloc (.cells (cellsB m).toArray 5)
  have hown : (W.alloc (.cells (cellsB m).toArray 5)).ownsRow 0 5 1 v (cellsB l).length (cellsB l) := A1.1.2.1
  obtain ⟨v', w', hr, h2, h3, h4, h5⟩ := run_append_own_at (P := Tryz.prog) (W.alloc (.cells (cellsB m).toArray 5)) 0 40 40 5 i1 (.int .u8 0) 1 1 Tryz.underlying40 hi1 hz0 hz1 hz2 rfl (by decide) v _ _ hown ⟨W.heap.size, 0, none⟩ m.length m.length (cellsB m) (by rw [cellsB_length]; omega) (cells_new m) (cellsB_one m) (by rw [cellsB_length]; unfold maxLen; omega) (by rw [cellsB_length]; omega) (by omega)
  obtain ⟨ao', c', rfl⟩ := owns_form h2
  rw [cellsB_length] at hr h2 h5
  refine ⟨ao', c', w', hr, A1.ownGrow (vs' := cellsB (l ++ m)) (base := 0) ?_ h3 h5⟩
  rw [cellsB_append, List.length_append, cellsB_length, cellsB_length]
  exact h2
theorem own_newB {W : World} {cs : List Comp} (A : All cs W) (m : List UInt8) (hm : m.length ≤ 1000) : All (ownC 5 (.slice (some ⟨W.heap.size, 0, none⟩) m.length m.length) (cellsB m) :: cs) (W.alloc (.cells (cellsB m).toArray 5)) := by
  refine A.addOwn (ba W _) ⟨by simp, Or.inr ⟨W.heap.size, m.length, (cellsB m).toArray, by rw [cellsB_length], Nat.le_refl _, heap_alloc_new W _, by rw [cellsB_length]; omega, by unfold maxLen; omega, by simp [cellsB_length], by simp⟩⟩

set_option maxHeartbeats 3200000 in
set_option maxRecDepth 1000000 in
theorem written_any {x : List UInt8} {w : World} (hl : x.length ≤ 10000000000000) :
    Calls Tryz.prog 113 #[.string ⟨x.toArray⟩] w fun e w' => e = .returned (.string ⟨(wrtW x).toArray⟩) ∧ Below w.heap.size w w' := by
  have I := hid (risBare_any (l := x) (w := w) (by omega))
  have hz : (⟨x.toArray⟩ : ByteArray).size = x.length := by simp [ByteArray.size]
  cases hx : isBareW x with
  | true =>
    have e1 : wrtW x = x := by unfold wrtW; rw [hx, if_pos rfl]
    rw [e1]
    clear e1
    generalize ByteArray.mk x.toArray = X at *
    go_enter Tryz.func113, Tryz.ntmps113
    go_wp2_with (go_at_call 150; refine I.out.mono ?_; rintro e w1 ⟨rfl, rfl⟩; rw [hx])
    go_ret
    exact ⟨rfl, Below.refl _ _⟩
  | false =>
    have e1 : wrtW x = 34 :: (escW x ++ [34]) := by unfold wrtW; rw [hx, if_neg (by simp)]
    rw [e1]
    have IX : Hid (∀ k, k < x.length → ∀ W, (Instr.index 9 (.string ⟨x.toArray⟩) (.int .i64 (k : Int))).run Tryz.prog W = .ok (.int .u8 ((x.getD k 0).toNat : Int)) W) := fun k hk W => idx_at hk W
    have N := hid (own_newB (All.came w) [34] (by simp))
    have ET : Hid (∀ k, k < x.length → escW (x.take (k + 1)) = escW (x.take k) ++ escB (x.getD k 0)) := hid (fun k hk => escW_take hk)
    have EB : Hid (∀ k, k ≤ x.length → (escW (x.take k)).length ≤ 4 * k) := hid (fun k hk => by
      have h1 := escW_len (x.take k)
      have h2 : (x.take k).length = k := by simp; omega
      omega)
    have E0 : Hid (escW (x.take 0) = []) := hid (by simp [escW])
    have EF : Hid (escW (x.take x.length) = escW x) := hid (by rw [List.take_length])
    clear e1
    generalize ByteArray.mk x.toArray = X at *
    generalize hn : x.length = n at *
    clear hn
    go_enter Tryz.func113, Tryz.ntmps113
    go_wp2_with (go_at_call 150; refine I.out.mono ?_; rintro e w1 ⟨rfl, hw1⟩; subst w1; rw [hx])
    go_loopw [4, 5] (fun ov iv wr => ∃ (k : Nat) (o : List UInt8) (ao : Option Addr) (c : Nat), k ≤ n ∧ iv = .int .i64 (k : Int) ∧ ov = .slice ao o.length c ∧ o.length ≤ 4 * k + 1 ∧ Hid (o = 34 :: escW (x.take k)) ∧ Hid (All (ownC 5 (.slice ao o.length c) (cellsB o) :: [inC w]) wr)) (fun _ iv _ => n - (intOf iv).toNat)
    case atStart => exact ⟨0, [34], some ⟨w.heap.size, 0, none⟩, 1, by omega, rfl, rfl, by simp, hid (by rw [E0.out]), N⟩
    case round =>
      obtain ⟨k, o, ao, c, hk, rfl, rfl, ho, hO, hA⟩ := hrel
      clear N
      by_cases hlt : k < n
      · have hlt' : (k : Int) < (n : Int) := by omega
        have ix := IX.out k hlt
        have et := hid (ET.out k hlt)
        generalize hb : x.getD k 0 = b at *
        clear hb
        have hb8 := b.toNat_lt
        by_cases hq : b.toNat = 34 ∨ b.toNat = 92
        · have eb : Hid (escB b = [92, b]) := hid (by unfold escB; rw [if_pos (by simp only [prnN, decide_eq_true_eq]; omega), if_pos hq])
          obtain ⟨ao1, c1, w1, hr, A1⟩ := app_bytes hA.out [92, b] (by simp) (by simp; omega)
          have nO : Hid (o ++ [92, b] = 34 :: escW (x.take (k + 1))) := hid (by rw [et.out, eb.out, hO.out]; rfl)
          have R : Hid ((Builtin.append_ #[40, 40] 40 #[.slice ao o.length c, .slice (some ⟨wr.heap.size, 0, none⟩) 2 2]).run Tryz.prog (wr.alloc (.cells #[.int .u8 92, .int .u8 (b.toNat : Int)] 5)) = .ok (.slice ao1 (o.length + 2) c1) w1) := hid hr
          have A2 := hid A1
          have EL := hid (show (o ++ [92, b]).length = o.length + 2 by simp)
          clear hr A1 hA
          generalize hno : o.length = no at *
          clear hno
          by_cases h34 : b.toNat = 34
          · have bi : (b.toNat : Int) = 34 := by omega
            rw [bi] at ix R
            clear bi h34 hq
            go_wp2_with (at_builtin; refine wpList_append_run rfl _ _ 40 rfl _ _ _ _ rfl rfl R.out ?_)
            go_roundw
            case rel => exact ⟨k + 1, o ++ [92, b], ao1, c1, by omega, by go_num, by rw [EL.out], by rw [EL.out]; omega, nO, hid (by rw [EL.out]; exact A2.out)⟩
            case measure => simp [intOf]; omega
          · have bi : (b.toNat : Int) = 92 := by omega
            rw [bi] at ix R
            clear bi h34 hq
            go_wp2_with (at_builtin; refine wpList_append_run rfl _ _ 40 rfl _ _ _ _ rfl rfl R.out ?_)
            go_roundw
            case rel => exact ⟨k + 1, o ++ [92, b], ao1, c1, by omega, by go_num, by rw [EL.out], by rw [EL.out]; omega, nO, hid (by rw [EL.out]; exact A2.out)⟩
            case measure => simp [intOf]; omega
        · have n34 : ((b.toNat : Int) == 34) = false := by simp; omega
          have n92 : ((b.toNat : Int) == 92) = false := by simp; omega
          by_cases hp : 32 ≤ b.toNat ∧ b.toNat ≤ 126
          · have eb : Hid (escB b = [b]) := hid (by unfold escB; rw [if_pos (by simp only [prnN, decide_eq_true_eq]; exact hp), if_neg hq])
            obtain ⟨ao1, c1, w1, hr, A1⟩ := app_byte hA.out b (by omega)
            have nO : Hid (o ++ [b] = 34 :: escW (x.take (k + 1))) := hid (by rw [et.out, eb.out, hO.out]; rfl)
            have R := hid hr
            have A2 := hid A1
            have EL := hid (show (o ++ [b]).length = o.length + 1 by simp)
            have p1 : (32 : Int) ≤ b.toNat := by omega
            have p2 : (b.toNat : Int) ≤ 126 := by omega
            clear hr A1 hA hq hp
            generalize hno : o.length = no at *
            clear hno
            generalize (b.toNat : Int) = bi at *
            go_wp2_with (at_builtin; refine wpList_append_run rfl _ _ 40 rfl _ _ _ _ rfl rfl R.out ?_)
            go_roundw
            case rel => exact ⟨k + 1, o ++ [b], ao1, c1, by omega, by go_num, by rw [EL.out], by rw [EL.out]; omega, nO, hid (by rw [EL.out]; exact A2.out)⟩
            case measure => simp [intOf]; omega
          · have eb : Hid (escB b = [92, 120, hexD (b.toNat / 16), hexD (b.toNat % 16)]) := hid (by unfold escB; rw [if_neg (by simp only [prnN, decide_eq_true_eq]; exact hp)])
            have hA0 := hid hA.out.drew
            obtain ⟨ao1, c1, w1, hr, A1⟩ := app_bytes hA0.out [92, 120, hexD (b.toNat / 16), hexD (b.toNat % 16)] (by simp) (by simp; omega)
            have nO : Hid (o ++ [92, 120, hexD (b.toNat / 16), hexD (b.toNat % 16)] = 34 :: escW (x.take (k + 1))) := hid (by rw [et.out, eb.out, hO.out]; rfl)
            have EL := hid (show (o ++ [92, 120, hexD (b.toNat / 16), hexD (b.toNat % 16)]).length = o.length + 4 by simp)
            have i1 := idx_hex (n := b.toNat / 16) (by omega)
            have i2 := idx_hex (n := b.toNat % 16) (by omega)
            have q1 : (b.toNat : Int) / 16 = ((b.toNat / 16 : Nat) : Int) := by omega
            have q2 : (b.toNat : Int).tdiv 16 = ((b.toNat / 16 : Nat) : Int) := by rw [Int.tdiv_eq_ediv_of_nonneg (by omega)]; omega
            have q3 : (b.toNat : Int).tmod 16 = ((b.toNat % 16 : Nat) : Int) := by rw [Int.tmod_eq_emod_of_nonneg (by omega)]; omega
            have q4 : (b.toNat : Int) % 16 = ((b.toNat % 16 : Nat) : Int) := by omega
            have wf : ∀ a : Fin 16, IntKind.u8.wrap (a.val : Int) = a.val := by decide +kernel
            have w1' := wf ⟨b.toNat / 16, by omega⟩
            have w2' := wf ⟨b.toNat % 16, by omega⟩
            simp only at w1' w2'
            clear wf
            have A2 := hid A1
            generalize b.toNat / 16 = n1 at *
            generalize b.toNat % 16 = n2 at *
            generalize hexD n1 = d1 at *
            generalize hexD n2 = d2 at *
            have R : Hid ((Builtin.append_ #[40, 40] 40 #[.slice ao o.length c, .slice (some ⟨wr.heap.size, 0, none⟩) 4 4]).run Tryz.prog (wr.drew.alloc (.cells #[.int .u8 92, .int .u8 120, .int .u8 (d1.toNat : Int), .int .u8 (d2.toNat : Int)] 5)) = .ok (.slice ao1 (o.length + 4) c1) w1) := hid hr
            clear hr A1 hA hA0 eb et hq
            generalize hno : o.length = no at *
            clear hno
            generalize (d1.toNat : Int) = d1i at *
            generalize (d2.toNat : Int) = d2i at *
            by_cases p1 : (32 : Int) ≤ b.toNat
            · have p2 : ¬ (b.toNat : Int) ≤ 126 := by omega
              clear hp
              generalize (b.toNat : Int) = bi at *
              go_wp2
              go_region_held3 (fun _ => True) (trivial) (first | (refine step_append_run (by rfl) (.tmp 40) (.tmp 49) 40 (by rfl) _ _ _ _ (by rfl) (by rfl) R.out ?_))
              all_goals go_wp2
              all_goals (try go_roundw)
              all_goals first | exact ⟨k + 1, o ++ [92, 120, d1, d2], ao1, c1, by omega, by go_num, by rw [EL.out], by rw [EL.out]; omega, nO, hid (by rw [EL.out]; exact A2.out)⟩ | (simp [intOf]; omega) | exact ⟨⟨k + 1, o ++ [92, 120, d1, d2], ao1, c1, by omega, by go_num, by rw [EL.out], by rw [EL.out]; omega, nO, hid (by rw [EL.out]; exact A2.out)⟩, by simp [intOf]; omega⟩
            · clear hp
              generalize (b.toNat : Int) = bi at *
              go_wp2
              go_region_held3 (fun _ => True) (trivial) (first | (refine step_append_run (by rfl) (.tmp 40) (.tmp 49) 40 (by rfl) _ _ _ _ (by rfl) (by rfl) R.out ?_))
              all_goals go_wp2
              all_goals (try go_roundw)
              all_goals first | exact ⟨k + 1, o ++ [92, 120, d1, d2], ao1, c1, by omega, by go_num, by rw [EL.out], by rw [EL.out]; omega, nO, hid (by rw [EL.out]; exact A2.out)⟩ | (simp [intOf]; omega) | exact ⟨⟨k + 1, o ++ [92, 120, d1, d2], ao1, c1, by omega, by go_num, by rw [EL.out], by rw [EL.out]; omega, nO, hid (by rw [EL.out]; exact A2.out)⟩, by simp [intOf]; omega⟩
      · have hlt' : ¬ (k : Int) < (n : Int) := by omega
        have ek : k = n := by omega
        obtain ⟨ao1, c1, w1, hr, A1⟩ := app_byte hA.out 34 (by omega)
        have c34 : ((34 : UInt8).toNat : Int) = 34 := by decide
        rw [c34] at hr
        have R := hid hr
        have EL := hid (show (o ++ [34]).length = o.length + 1 by simp)
        have cv : (convert 40 9 (.slice ao1 (o.length + 1) c1)).run Tryz.prog w1 = .ok (.string ⟨(o ++ [34]).toArray⟩) w1 := conv_string (reads_own A1)
        have fin : Hid (o ++ [34] = 34 :: (escW x ++ [34])) := hid (by rw [hO.out, ek, EF.out]; rfl)
        have BL := hid (A1.into (w0 := w) (by simp))
        rw [fin.out] at cv
        clear hr A1 hA ek c34 fin hO
        generalize hY : ByteArray.mk (34 :: (escW x ++ [34])).toArray = Y at *
        have HY := hid hY
        clear hY
        generalize hno : o.length = no at *
        clear hno
        go_wp2_with (at_builtin; refine wpList_append_run rfl _ _ 40 rfl _ _ _ _ rfl rfl R.out ?_)
        go_ret
        exact ⟨by rw [HY.out]; rfl, BL.out⟩
end Go.Proofs.YtdhkdniddjnigaaGreatDoor

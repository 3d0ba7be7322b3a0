import Derived.Test.YtblojlaifnmimaaGreatDoorJ11
import Derived.Deep.RegionHeld3
import Derived.Test.YtblojlaifnmimaaGreatDoorJ3
namespace Go.Proofs.YtblojlaifnmimaaGreatDoor
open Go.RowKit
set_option linter.unusedVariables false

theorem cells_new {W : World} (m : List UInt8) : ∀ j u, (cellsB m)[j]? = some u → (W.alloc (.cells (cellsB m).toArray 5)).cell? ((⟨W.heap.size, 0, none⟩ : Addr).add j) = some u := by
  intro j u hu
  rw [Addr.add_lit, cell_at (heap_alloc_new W _)]
  simpa using hu
/-- Bytes laid behind one's own. -/
theorem app_bytes {W : World} {v : Value} {l : List UInt8} {cs : List Comp} (A : All (ownC 5 v (cellsB l) :: cs) W) (m : List UInt8) (h0 : 0 < m.length) (hl : l.length + m.length ≤ 140737488355328) :
    ∃ ao c w', (Builtin.append_ #[58, 58] 58 #[v, .slice (some ⟨W.heap.size, 0, none⟩) m.length m.length]).run Tryz.prog (W.alloc (.cells (cellsB m).toArray 5)) = .ok (.slice ao (l.length + m.length) c) w' ∧ All (ownC 5 (.slice ao (l.length + m.length) c) (cellsB (l ++ m)) :: cs) w' := by
  obtain ⟨i1, hi1, hz0, hz1, hz2⟩ := info_parts Tryz.info5
  have A1 := A.alloc (.cells (cellsB m).toArray 5)
  have hown : (W.alloc (.cells (cellsB m).toArray 5)).ownsRow 0 5 1 v (cellsB l).length (cellsB l) := A1.1.2.1
  obtain ⟨v', w', hr, h2, h3, h4, h5⟩ := run_append_own_at (P := Tryz.prog) (W.alloc (.cells (cellsB m).toArray 5)) 0 58 58 5 i1 (.int .u8 0) 1 1 Tryz.underlying58 hi1 hz0 hz1 hz2 rfl (by decide) v _ _ hown ⟨W.heap.size, 0, none⟩ m.length m.length (cellsB m) (by rw [cellsB_length]; omega) (cells_new m) (cellsB_one m) (by rw [cellsB_length]; unfold maxLen; omega) (by rw [cellsB_length]; omega) (by omega)
  obtain ⟨ao', c', rfl⟩ := owns_form h2
  rw [cellsB_length] at hr h2 h5
  refine ⟨ao', c', w', hr, A1.ownGrow (vs' := cellsB (l ++ m)) (base := 0) ?_ h3 h5⟩
  rw [cellsB_append, List.length_append, cellsB_length, cellsB_length]
  exact h2
theorem own_newB {W : World} {cs : List Comp} (A : All cs W) (m : List UInt8) (hm : m.length ≤ 1000) : All (ownC 5 (.slice (some ⟨W.heap.size, 0, none⟩) m.length m.length) (cellsB m) :: cs) (W.alloc (.cells (cellsB m).toArray 5)) := by
  refine A.addOwn (ba W _) ⟨by simp, Or.inr ⟨W.heap.size, m.length, (cellsB m).toArray, by rw [cellsB_length], Nat.le_refl _, heap_alloc_new W _, by rw [cellsB_length]; omega, by unfold maxLen; omega, by simp [cellsB_length], by simp⟩⟩

set_option maxHeartbeats 3200000 in
set_option maxRecDepth 1000000 in
theorem written_any {x : List UInt8} {w : World} (hl : x.length ≤ 10000000000000) :
    Calls Tryz.prog 56 #[.string ⟨x.toArray⟩] w fun e w' => e = .returned (.string ⟨(wrtW x).toArray⟩) ∧ Below w.heap.size w w' := by
  have I := hid (risBare_any (l := x) (w := w) (by omega))
  have hz : (⟨x.toArray⟩ : ByteArray).size = x.length := by simp [ByteArray.size]
  cases hx : isBareW x with
  | true =>
    have e1 : wrtW x = x := by unfold wrtW; rw [hx, if_pos rfl]
    rw [e1]
    clear e1
    generalize ByteArray.mk x.toArray = X at *
    go_enter Tryz.func56, Tryz.ntmps56
    go_wp2_with (go_at_call 73; refine I.out.mono ?_; rintro e w1 ⟨rfl, rfl⟩; rw [hx])
    go_ret
    exact ⟨rfl, Below.refl _ _⟩
  | false =>
    have e1 : wrtW x = 34 :: (escW x ++ [34]) := by unfold wrtW; rw [hx, if_neg (by simp)]
    rw [e1]
    have IX : Hid (∀ k, k < x.length → ∀ W, (Instr.index 9 (.string ⟨x.toArray⟩) (.int .i64 (k : Int))).run Tryz.prog W = .ok (.int .u8 ((x.getD k 0).toNat : Int)) W) := fun k hk W => idx_at hk W
    have N := hid (own_newB (All.came w) [34] (by simp))
    have ET : Hid (∀ k, k < x.length → escW (x.take (k + 1)) = escW (x.take k) ++ escB (x.getD k 0)) := hid (fun k hk => escW_take hk)
    have EB : Hid (∀ k, k ≤ x.length → (escW (x.take k)).length ≤ 4 * k) := hid (fun k hk => by
      have h1 := escW_len (x.take k)
      have h2 : (x.take k).length = k := by simp; omega
      omega)
    have E0 : Hid (escW (x.take 0) = []) := hid (by simp [escW])
    have EF : Hid (escW (x.take x.length) = escW x) := hid (by rw [List.take_length])
    clear e1
    generalize ByteArray.mk x.toArray = X at *
    generalize hn : x.length = n at *
    clear hn
    go_enter Tryz.func56, Tryz.ntmps56
    go_wp2_with (go_at_call 73; refine I.out.mono ?_; rintro e w1 ⟨rfl, hw1⟩; subst w1; rw [hx])
    go_loopw [4, 5] (fun ov iv wr => ∃ (k : Nat) (o : List UInt8) (ao : Option Addr) (c : Nat), k ≤ n ∧ iv = .int .i64 (k : Int) ∧ ov = .slice ao o.length c ∧ o.length ≤ 4 * k + 1 ∧ Hid (o = 34 :: escW (x.take k)) ∧ Hid (All (ownC 5 (.slice ao o.length c) (cellsB o) :: [inC w]) wr)) (fun _ iv _ => n - (intOf iv).toNat)
    case atStart => exact ⟨0, [34], some ⟨w.heap.size, 0, none⟩, 1, by omega, rfl, rfl, by simp, hid (by rw [E0.out]), N⟩
    case round =>
      obtain ⟨k, o, ao, c, hk, rfl, rfl, ho, hO, hA⟩ := hrel
      clear N
      by_cases hlt : k < n
      · have hlt' : (k : Int) < (n : Int) := by omega
        have ix := IX.out k hlt
        have et := hid (ET.out k hlt)
        generalize hb : x.getD k 0 = b at *
        clear hb
        have hb8 := b.toNat_lt
        by_cases hq : b.toNat = 34 ∨ b.toNat = 92
        · have eb : Hid (escB b = [92, b]) := hid (by unfold escB; rw [if_pos (by simp only [prnN, decide_eq_true_eq]; omega), if_pos hq])
          obtain ⟨ao1, c1, w1, hr, A1⟩ := app_bytes hA.out [92, b] (by simp) (by simp; omega)
          have nO : Hid (o ++ [92, b] = 34 :: escW (x.take (k + 1))) := hid (by rw [et.out, eb.out, hO.out]; rfl)
          have R : Hid ((Builtin.append_ #[58, 58] 58 #[.slice ao o.length c, .slice (some ⟨wr.heap.size, 0, none⟩) 2 2]).run Tryz.prog (wr.alloc (.cells #[.int .u8 92, .int .u8 (b.toNat : Int)] 5)) = .ok (.slice ao1 (o.length + 2) c1) w1) := hid hr
          have A2 := hid A1
          have EL := hid (show (o ++ [92, b]).length = o.length + 2 by simp)
          clear hr A1 hA
          generalize hno : o.length = no at *
          clear hno
          by_cases h34 : b.toNat = 34
          · have bi : (b.toNat : Int) = 34 := by omega
            rw [bi] at ix R
            clear bi h34 hq
            go_wp2_with (at_builtin; refine wpList_append_run rfl _ _ 58 rfl _ _ _ _ rfl rfl R.out ?_)
            go_roundw
            case rel => exact ⟨k + 1, o ++ [92, b], ao1, c1, by omega, by go_num, by rw [EL.out], by rw [EL.out]; omega, nO, hid (by rw [EL.out]; exact A2.out)⟩
            case measure => simp [intOf]; omega
          · have bi : (b.toNat : Int) = 92 := by omega
            rw [bi] at ix R
            clear bi h34 hq
            go_wp2_with (at_builtin; refine wpList_append_run rfl _ _ 58 rfl _ _ _ _ rfl rfl R.out ?_)
            go_roundw
            case rel => exact ⟨k + 1, o ++ [92, b], ao1, c1, by omega, by go_num, by rw [EL.out], by rw [EL.out]; omega, nO, hid (by rw [EL.out]; exact A2.out)⟩
            case measure => simp [intOf]; omega
        · have n34 : ((b.toNat : Int) == 34) = false := by simp; omega
          have n92 : ((b.toNat : Int) == 92) = false := by simp; omega
          by_cases hp : 32 ≤ b.toNat ∧ b.toNat ≤ 126
          · have eb : Hid (escB b = [b]) := hid (by unfold escB; rw [if_pos (by simp only [prnN, decide_eq_true_eq]; exact hp), if_neg hq])
            obtain ⟨ao1, c1, w1, hr, A1⟩ := app_byte hA.out b (by omega)
            have nO : Hid (o ++ [b] = 34 :: escW (x.take (k + 1))) := hid (by rw [et.out, eb.out, hO.out]; rfl)
            have R := hid hr
            have A2 := hid A1
            have EL := hid (show (o ++ [b]).length = o.length + 1 by simp)
            have p1 : (32 : Int) ≤ b.toNat := by omega
            have p2 : (b.toNat : Int) ≤ 126 := by omega
            clear hr A1 hA hq hp
            generalize hno : o.length = no at *
            clear hno
            generalize (b.toNat : Int) = bi at *
            go_wp2_with (at_builtin; refine wpList_append_run rfl _ _ 58 rfl _ _ _ _ rfl rfl R.out ?_)
            go_roundw
            case rel => exact ⟨k + 1, o ++ [b], ao1, c1, by omega, by go_num, by rw [EL.out], by rw [EL.out]; omega, nO, hid (by rw [EL.out]; exact A2.out)⟩
            case measure => simp [intOf]; omega
          · have eb : Hid (escB b = [92, 120, hexD (b.toNat / 16), hexD (b.toNat % 16)]) := hid (by unfold escB; rw [if_neg (by simp only [prnN, decide_eq_true_eq]; exact hp)])
            have hA0 := hid hA.out.drew
            obtain ⟨ao1, c1, w1, hr, A1⟩ := app_bytes hA0.out [92, 120, hexD (b.toNat / 16), hexD (b.toNat % 16)] (by simp) (by simp; omega)
            have nO : Hid (o ++ [92, 120, hexD (b.toNat / 16), hexD (b.toNat % 16)] = 34 :: escW (x.take (k + 1))) := hid (by rw [et.out, eb.out, hO.out]; rfl)
            have EL := hid (show (o ++ [92, 120, hexD (b.toNat / 16), hexD (b.toNat % 16)]).length = o.length + 4 by simp)
            have i1 := idx_hex (n := b.toNat / 16) (by omega)
            have i2 := idx_hex (n := b.toNat % 16) (by omega)
            have q1 : (b.toNat : Int) / 16 = ((b.toNat / 16 : Nat) : Int) := by omega
            have q2 : (b.toNat : Int).tdiv 16 = ((b.toNat / 16 : Nat) : Int) := by rw [Int.tdiv_eq_ediv_of_nonneg (by omega)]; omega
            have q3 : (b.toNat : Int).tmod 16 = ((b.toNat % 16 : Nat) : Int) := by rw [Int.tmod_eq_emod_of_nonneg (by omega)]; omega
            have q4 : (b.toNat : Int) % 16 = ((b.toNat % 16 : Nat) : Int) := by omega
            have wf : ∀ a : Fin 16, IntKind.u8.wrap (a.val : Int) = a.val := by decide +kernel
            have w1' := wf ⟨b.toNat / 16, by omega⟩
            have w2' := wf ⟨b.toNat % 16, by omega⟩
            simp only at w1' w2'
            clear wf
            have A2 := hid A1
            generalize b.toNat / 16 = n1 at *
            generalize b.toNat % 16 = n2 at *
            generalize hexD n1 = d1 at *
            generalize hexD n2 = d2 at *
            have R : Hid ((Builtin.append_ #[58, 58] 58 #[.slice ao o.length c, .slice (some ⟨wr.heap.size, 0, none⟩) 4 4]).run Tryz.prog (wr.drew.alloc (.cells #[.int .u8 92, .int .u8 120, .int .u8 (d1.toNat : Int), .int .u8 (d2.toNat : Int)] 5)) = .ok (.slice ao1 (o.length + 4) c1) w1) := hid hr
            clear hr A1 hA hA0 eb et hq
            generalize hno : o.length = no at *
            clear hno
            generalize (d1.toNat : Int) = d1i at *
            generalize (d2.toNat : Int) = d2i at *
            by_cases p1 : (32 : Int) ≤ b.toNat
            · have p2 : ¬ (b.toNat : Int) ≤ 126 := by omega
              clear hp
              generalize (b.toNat : Int) = bi at *
              go_wp2
              go_region_held3 (fun _ => True) (trivial) (first | (refine step_append_run (by rfl) (.tmp 40) (.tmp 49) 58 (by rfl) _ _ _ _ (by rfl) (by rfl) R.out ?_))
              all_goals go_wp2
              all_goals (try go_roundw)
              all_goals first | exact ⟨k + 1, o ++ [92, 120, d1, d2], ao1, c1, by omega, by go_num, by rw [EL.out], by rw [EL.out]; omega, nO, hid (by rw [EL.out]; exact A2.out)⟩ | (simp [intOf]; omega) | exact ⟨⟨k + 1, o ++ [92, 120, d1, d2], ao1, c1, by omega, by go_num, by rw [EL.out], by rw [EL.out]; omega, nO, hid (by rw [EL.out]; exact A2.out)⟩, by simp [intOf]; omega⟩
            · clear hp
              generalize (b.toNat : Int) = bi at *
              go_wp2
              go_region_held3 (fun _ => True) (trivial) (first | (refine step_append_run (by rfl) (.tmp 40) (.tmp 49) 58 (by rfl) _ _ _ _ (by rfl) (by rfl) R.out ?_))
              all_goals go_wp2
              all_goals (try go_roundw)
              all_goals first | exact ⟨k + 1, o ++ [92, 120, d1, d2], ao1, c1, by omega, by go_num, by rw [EL.out], by rw [EL.out]; omega, nO, hid (by rw [EL.out]; exact A2.out)⟩ | (simp [intOf]; omega) | exact ⟨⟨k + 1, o ++ [92, 120, d1, d2], ao1, c1, by omega, by go_num, by rw [EL.out], by rw [EL.out]; omega, nO, hid (by rw [EL.out]; exact A2.out)⟩, by simp [intOf]; omega⟩
      · have hlt' : ¬ (k : Int) < (n : Int) := by omega
        have ek : k = n := by omega
        obtain ⟨ao1, c1, w1, hr, A1⟩ := app_byte hA.out 34 (by omega)
        have c34 : ((34 : UInt8).toNat : Int) = 34 := by decide
        rw [c34] at hr
        have R := hid hr
        have EL := hid (show (o ++ [34]).length = o.length + 1 by simp)
        have cv : (convert 58 9 (.slice ao1 (o.length + 1) c1)).run Tryz.prog w1 = .ok (.string ⟨(o ++ [34]).toArray⟩) w1 := conv_string (reads_own A1)
        have fin : Hid (o ++ [34] = 34 :: (escW x ++ [34])) := hid (by rw [hO.out, ek, EF.out]; rfl)
        have BL := hid (A1.into (w0 := w) (by simp))
        rw [fin.out] at cv
        clear hr A1 hA ek c34 fin hO
        generalize hY : ByteArray.mk (34 :: (escW x ++ [34])).toArray = Y at *
        have HY := hid hY
        clear hY
        generalize hno : o.length = no at *
        clear hno
        go_wp2_with (at_builtin; refine wpList_append_run rfl _ _ 58 rfl _ _ _ _ rfl rfl R.out ?_)
        go_ret
        exact ⟨by rw [HY.out]; rfl, BL.out⟩
end Go.Proofs.YtblojlaifnmimaaGreatDoor

namespace Go.Proofs.YtblojlaifnmimaaGreatDoor
open Go.RowKit
set_option linter.unusedVariables false

theorem ba_app (a b : List UInt8) : (⟨a.toArray⟩ : ByteArray) ++ ⟨b.toArray⟩ = ⟨(a ++ b).toArray⟩ := by
  apply ByteArray.ext
  simp
theorem ba_size (a : List UInt8) : (⟨a.toArray⟩ : ByteArray).size = a.length := by simp [ByteArray.size]

set_option maxHeartbeats 1600000 in
set_option maxRecDepth 1000000 in
theorem rJoin_any {s : Value} {ws : Ws} {w : World} (hs : Rt w s ws) (hn : ws.length ≤ 140737488355328) (hl : lenJ ws ≤ 10000000000000) :
    Calls Tryz.prog 31 #[s] w fun e w' => e = .returned (.string ⟨(joinW ws).toArray⟩) ∧ Below w.heap.size w w' := by
  obtain ⟨ao, c, rfl⟩ := hs.form
  have HS := hid hs
  have WR : Hid (∀ k W, k < ws.length → Calls Tryz.prog 56 #[.string ⟨(ws.getD k []).toArray⟩] W fun e w' => e = .returned (.string ⟨(wrtW (ws.getD k [])).toArray⟩) ∧ Below W.heap.size W w') := hid (fun k W hk => written_any (by
    have h2 := lenJ_le ws (k + 1)
    rw [lenJ_take hk] at h2
    omega))
  have FK : Hid (∀ k, k < ws.length → (⟨(preW (ws.take k)).toArray⟩ : ByteArray) ++ ⟨(wrtW (ws.getD k [])).toArray⟩ = ⟨(joinW (ws.take (k + 1))).toArray⟩ ∧ ¬ 9223372036854775807 < (⟨(preW (ws.take k)).toArray⟩ : ByteArray).size + (⟨(wrtW (ws.getD k [])).toArray⟩ : ByteArray).size) := hid (fun k hk => by
    refine ⟨by rw [ba_app, take_snoc hk, joinW_snoc], ?_⟩
    rw [ba_size, ba_size]
    have h1 := joinW_len ws k (by omega)
    have h2 := lenJ_le ws (k + 1)
    rw [lenJ_take hk] at h2
    have h3 := preW_len (ws.take k)
    have h4 := wrtW_len (ws.getD k [])
    omega)
  have FS : Hid (∀ k, 0 < k → k < ws.length → (⟨(joinW (ws.take k)).toArray⟩ : ByteArray) ++ ⟨#[32]⟩ = ⟨(preW (ws.take k)).toArray⟩ ∧ ¬ 9223372036854775807 < (⟨(joinW (ws.take k)).toArray⟩ : ByteArray).size + (⟨#[32]⟩ : ByteArray).size) := hid (fun k h0 hk => by
    have e2 : preW (ws.take k) = joinW (ws.take k) ++ [32] := by
      unfold preW
      rw [if_neg (fun e => by have := congrArg List.length e; rw [List.length_take, List.length_nil] at this; omega)]
    refine ⟨by rw [e2, ← ba_app], ?_⟩
    rw [ba_size]
    have h1 := joinW_len ws k (by omega)
    have h2 := lenJ_le ws k
    have h3 : (⟨#[32]⟩ : ByteArray).size = 1 := rfl
    omega)
  have P0 : Hid (preW (ws.take 0) = joinW (ws.take 0)) := hid (by simp [preW, joinW])
  have J0 : Hid ((⟨(joinW (ws.take 0)).toArray⟩ : ByteArray) = ⟨#[]⟩) := hid (by simp [joinW])
  have FN : Hid ((⟨(joinW (ws.take ws.length)).toArray⟩ : ByteArray) = ⟨(joinW ws).toArray⟩) := hid (by rw [List.take_length])
  clear hs hl
  generalize hJ : ByteArray.mk (joinW ws).toArray = J at *
  clear hJ
  generalize hnw : ws.length = n at *
  have HN := hid hnw
  clear hnw
  go_enter Tryz.func31, Tryz.ntmps31
  go_wp2
  go_loopw [3, 8] (fun sv iv wr => ∃ (k : Nat) (S : ByteArray), k ≤ n ∧ iv = .int .i64 (k : Int) ∧ sv = .string S ∧ Hid (S = ⟨(joinW (ws.take k)).toArray⟩) ∧ Hid (Below w.heap.size w wr)) (fun _ iv _ => n - (intOf iv).toNat)
  case atStart => exact ⟨0, ⟨#[]⟩, by omega, rfl, rfl, hid J0.out.symm, hid (Below.refl _ _)⟩
  case round =>
    obtain ⟨k, S, hk, rfl, rfl, hS, hB⟩ := hrel
    by_cases hlt : k < n
    · obtain ⟨g, o, rfl, _, h1⟩ := (HS.out.later hB.out).at (j := k) (by rw [HN.out]; exact hlt)
      have hlt' : (k : Int) < (n : Int) := by omega
      have Q := hid (WR.out k wr hlt)
      obtain ⟨f1, f2⟩ := FK.out k hlt
      by_cases h0 : k = 0
      · have eS : Hid ((⟨(preW (ws.take k)).toArray⟩ : ByteArray) = S) := hid (by rw [hS.out, h0, P0.out])
        rw [eS.out] at f1 f2
        have hz : ¬ (0 : Int) < (k : Int) := by omega
        generalize ByteArray.mk (ws.getD k []).toArray = X at *
        generalize ByteArray.mk (wrtW (ws.getD k [])).toArray = Y at *
        generalize hN : ByteArray.mk (joinW (ws.take (k + 1))).toArray = N at *
        have HNN := hid hN
        clear h0 hN
        go_wp2_with (go_at_call 56; refine Q.out.mono ?_; rintro e w2 ⟨rfl, B2⟩; have BB2 := hid (hB.out.trans (B2.mono hB.out.size)); clear B2)
        go_roundw
        case rel => exact ⟨k + 1, N, by omega, by go_num, rfl, hid HNN.out.symm, BB2⟩
        case measure => simp [intOf]; omega
      · obtain ⟨g1, g2⟩ := FS.out k (by omega) hlt
        rw [← hS.out] at g1 g2
        have hz : (0 : Int) < (k : Int) := by omega
        generalize ByteArray.mk (ws.getD k []).toArray = X at *
        generalize ByteArray.mk (wrtW (ws.getD k [])).toArray = Y at *
        generalize ByteArray.mk (preW (ws.take k)).toArray = Z at *
        generalize hN : ByteArray.mk (joinW (ws.take (k + 1))).toArray = N at *
        have HNN := hid hN
        clear h0 hN
        go_wp2_with (go_at_call 56; refine Q.out.mono ?_; rintro e w2 ⟨rfl, B2⟩; have BB2 := hid (hB.out.trans (B2.mono hB.out.size)); clear B2)
        go_roundw
        case rel => exact ⟨k + 1, N, by omega, by go_num, rfl, hid HNN.out.symm, BB2⟩
        case measure => simp [intOf]; omega
    · have hlt' : ¬ (k : Int) < (n : Int) := by omega
      have ek : k = n := by omega
      have fin : Hid (S = J) := hid (by rw [hS.out, ek, FN.out])
      clear ek
      go_wp2
      go_ret
      exact ⟨by rw [← fin.out]; rfl, hB.out⟩
end Go.Proofs.YtblojlaifnmimaaGreatDoor

namespace Go.Proofs.YtblojlaifnmimaaGreatDoor
open Go.RowKit
set_option linter.unusedVariables false

def wi (v l m : Int) : Bool := decide (l ≤ v) && decide (v ≤ m)
def fl (n : Int) : Bool := n == 3 || n == 5 || n == 7
theorem vwithin_any {w : World} (v l m : Int) : Calls Tryz.prog 48 #[.int .i64 v, .int .i64 l, .int .i64 m] w fun e w' => e = .returned (.bool (wi v l m)) ∧ w' = w := by
  unfold wi
  by_cases h1 : l ≤ v
  · by_cases h2 : v ≤ m
    all_goals
      go_enter Tryz.func48, Tryz.ntmps48
      go_wp2
      go_ret
      exact ⟨by simp [h1, h2], rfl⟩
  · go_enter Tryz.func48, Tryz.ntmps48
    go_wp2
    go_ret
    exact ⟨by rw [show decide (l ≤ v) = false from decide_eq_false (by omega)]; rfl, rfl⟩
theorem vwithin_ref {w : World} (v l m : Int) : Calls Tryz.prog 41 #[.int .i64 v, .int .i64 l, .int .i64 m] w fun e w' => e = .returned (.bool (wi v l m)) ∧ w' = w := by
  unfold wi
  by_cases h1 : l ≤ v
  · by_cases h2 : v ≤ m
    all_goals
      go_enter Tryz.func41, Tryz.ntmps41
      go_wp2
      go_ret
      exact ⟨by simp [h1, h2], rfl⟩
  · go_enter Tryz.func41, Tryz.ntmps41
    go_wp2
    go_ret
    exact ⟨by rw [show decide (l ≤ v) = false from decide_eq_false (by omega)]; rfl, rfl⟩
theorem vfleet_any {w : World} (n : Int) : Calls Tryz.prog 47 #[.int .i64 n] w fun e w' => e = .returned (.bool (fl n)) ∧ w' = w := by
  unfold fl
  by_cases h1 : n = 3
  · subst h1
    go_enter Tryz.func47, Tryz.ntmps47
    go_wp2
    go_ret
    exact ⟨rfl, rfl⟩
  · by_cases h2 : n = 5
    · subst h2
      go_enter Tryz.func47, Tryz.ntmps47
      go_wp2
      go_ret
      exact ⟨rfl, rfl⟩
    · go_enter Tryz.func47, Tryz.ntmps47
      go_wp2
      go_ret
      exact ⟨by simp, rfl⟩
abbrev cfgV (a0 a1 a2 a3 a4 a5 a6 a7 a8 a9 : Int) : Value := .agg #[.int .i64 a0, .int .i64 a1, .int .i64 a2, .int .i64 a3, .int .i64 a4, .int .i64 a5, .int .i64 a6, .int .i64 a7, .int .i64 a8, .int .i64 a9]
abbrev cfgB (a0 a1 a2 a3 a4 a5 a6 a7 a8 a9 : Int) : Obj := .cells #[.int .i64 a0, .int .i64 a1, .int .i64 a2, .int .i64 a3, .int .i64 a4, .int .i64 a5, .int .i64 a6, .int .i64 a7, .int .i64 a8, .int .i64 a9] 24
def cfgOK (a0 a1 a2 a3 a4 a5 a6 a7 a8 a9 : Int) : Bool := fl a0 && wi a1 1 8 && wi a2 1 16 && wi a3 1 16 && wi a4 (wrap64 (a2 + 1)) 256 && wi a5 a4 1024 && wi a6 1 a5 && wi a8 2 64 && wi a7 1 (wrap64 (a8 - 1)) && wi a9 1 8
def cfgE (b : Bool) : Int := if b then 0 else 42
theorem cfgE_t {b : Bool} (h : b = true) : cfgE b = 0 := by rw [h]; rfl
theorem cfgE_f {b : Bool} (h : b = false) : cfgE b = 42 := by rw [h]; rfl
theorem vwithin_b {w : World} (v l m : Int) : Calls Tryz.prog 48 #[.int .i64 v, .int .i64 l, .int .i64 m] w fun e w' => ∃ b, Hid (wi v l m = b) ∧ e = .returned (.bool b) ∧ w' = w :=
  (vwithin_any v l m).mono fun e w' ⟨h, h'⟩ => ⟨_, hid rfl, h, h'⟩
theorem vwithin_rb {w : World} (v l m : Int) : Calls Tryz.prog 41 #[.int .i64 v, .int .i64 l, .int .i64 m] w fun e w' => ∃ b, Hid (wi v l m = b) ∧ e = .returned (.bool b) ∧ w' = w :=
  (vwithin_ref v l m).mono fun e w' ⟨h, h'⟩ => ⟨_, hid rfl, h, h'⟩
theorem vfleet_b {w : World} (n : Int) : Calls Tryz.prog 47 #[.int .i64 n] w fun e w' => ∃ b, Hid (fl n = b) ∧ e = .returned (.bool b) ∧ w' = w :=
  (vfleet_any n).mono fun e w' ⟨h, h'⟩ => ⟨_, hid rfl, h, h'⟩
set_option maxRecDepth 1000000 in
theorem cfg_any {w : World} (a0 a1 a2 a3 a4 a5 a6 a7 a8 a9 : Int) : Calls Tryz.prog 24 #[cfgV a0 a1 a2 a3 a4 a5 a6 a7 a8 a9] w fun e w' => e = .returned (.int .i64 (cfgE (cfgOK a0 a1 a2 a3 a4 a5 a6 a7 a8 a9))) ∧ Below w.heap.size w w' := by
  go_enter Tryz.func24, Tryz.ntmps24
  go_wp2_with fail
  refine (vfleet_b _).mono ?_
  rintro e w1 ⟨b, H0, rfl, rfl⟩
  cases b with
  | false =>
    go_wp2
    go_ret
    exact ⟨by rw [cfgE_f (by simp only [cfgOK, H0.out, Bool.false_and])]; rfl, ba _ _⟩
  | true =>
    go_wp2_with fail
    refine (vwithin_b _ _ _).mono ?_
    rintro e w1 ⟨b, H1, rfl, rfl⟩
    cases b with
    | false =>
      go_wp2
      go_ret
      exact ⟨by rw [cfgE_f (by simp only [cfgOK, H0.out, H1.out, Bool.false_and, Bool.and_false])]; rfl, ba _ _⟩
    | true =>
      go_wp2_with fail
      refine (vwithin_b _ _ _).mono ?_
      rintro e w1 ⟨b, H2, rfl, rfl⟩
      cases b with
      | false =>
        go_wp2
        go_ret
        exact ⟨by rw [cfgE_f (by simp only [cfgOK, H0.out, H1.out, H2.out, Bool.false_and, Bool.and_false, Bool.true_and])]; rfl, ba _ _⟩
      | true =>
        go_wp2_with fail
        refine (vwithin_b _ _ _).mono ?_
        rintro e w1 ⟨b, H3, rfl, rfl⟩
        cases b with
        | false =>
          go_wp2
          go_ret
          exact ⟨by rw [cfgE_f (by simp only [cfgOK, H0.out, H1.out, H2.out, H3.out, Bool.false_and, Bool.and_false, Bool.true_and])]; rfl, ba _ _⟩
        | true =>
          go_wp2_with fail
          refine (vwithin_b _ _ _).mono ?_
          rintro e w1 ⟨b, H4, rfl, rfl⟩
          cases b with
          | false =>
            go_wp2
            go_ret
            exact ⟨by rw [cfgE_f (by simp only [cfgOK, H0.out, H1.out, H2.out, H3.out, H4.out, Bool.false_and, Bool.and_false, Bool.true_and])]; rfl, ba _ _⟩
          | true =>
            go_wp2_with fail
            refine (vwithin_b _ _ _).mono ?_
            rintro e w1 ⟨b, H5, rfl, rfl⟩
            cases b with
            | false =>
              go_wp2
              go_ret
              exact ⟨by rw [cfgE_f (by simp only [cfgOK, H0.out, H1.out, H2.out, H3.out, H4.out, H5.out, Bool.false_and, Bool.and_false, Bool.true_and])]; rfl, ba _ _⟩
            | true =>
              go_wp2_with fail
              refine (vwithin_b _ _ _).mono ?_
              rintro e w1 ⟨b, H6, rfl, rfl⟩
              cases b with
              | false =>
                go_wp2
                go_ret
                exact ⟨by rw [cfgE_f (by simp only [cfgOK, H0.out, H1.out, H2.out, H3.out, H4.out, H5.out, H6.out, Bool.false_and, Bool.and_false, Bool.true_and])]; rfl, ba _ _⟩
              | true =>
                go_wp2_with fail
                refine (vwithin_b _ _ _).mono ?_
                rintro e w1 ⟨b, H7, rfl, rfl⟩
                cases b with
                | false =>
                  go_wp2
                  go_ret
                  exact ⟨by rw [cfgE_f (by simp only [cfgOK, H0.out, H1.out, H2.out, H3.out, H4.out, H5.out, H6.out, H7.out, Bool.false_and, Bool.and_false, Bool.true_and])]; rfl, ba _ _⟩
                | true =>
                  go_wp2_with fail
                  refine (vwithin_b _ _ _).mono ?_
                  rintro e w1 ⟨b, H8, rfl, rfl⟩
                  cases b with
                  | false =>
                    go_wp2
                    go_ret
                    exact ⟨by rw [cfgE_f (by simp only [cfgOK, H0.out, H1.out, H2.out, H3.out, H4.out, H5.out, H6.out, H7.out, H8.out, Bool.false_and, Bool.and_false, Bool.true_and])]; rfl, ba _ _⟩
                  | true =>
                    go_wp2_with fail
                    refine (vwithin_b _ _ _).mono ?_
                    rintro e w1 ⟨b, H9, rfl, rfl⟩
                    cases b with
                    | false =>
                      go_wp2
                      go_ret
                      exact ⟨by rw [cfgE_f (by simp only [cfgOK, H0.out, H1.out, H2.out, H3.out, H4.out, H5.out, H6.out, H7.out, H8.out, H9.out, Bool.and_false, Bool.true_and])]; rfl, ba _ _⟩
                    | true =>
                      go_wp2
                      go_ret
                      exact ⟨by rw [cfgE_t (by simp only [cfgOK, H0.out, H1.out, H2.out, H3.out, H4.out, H5.out, H6.out, H7.out, H8.out, H9.out, Bool.and_self])]; rfl, ba _ _⟩
set_option maxRecDepth 1000000 in
theorem cfg_ref {w : World} (a0 a1 a2 a3 a4 a5 a6 a7 a8 a9 : Int) : Calls Tryz.prog 22 #[cfgV a0 a1 a2 a3 a4 a5 a6 a7 a8 a9] w fun e w' => e = .returned (.int .i64 (cfgE (cfgOK a0 a1 a2 a3 a4 a5 a6 a7 a8 a9))) ∧ Below w.heap.size w w' := by
  go_enter Tryz.func22, Tryz.ntmps22
  go_upto_region 1 with fail
  go_cut [3] (fun s wx => s = .bool (fl a0) ∧ wx = w.alloc (cfgB a0 a1 a2 a3 a4 a5 a6 a7 a8 a9))
  case first =>
    by_cases h3 : a0 = 3
    · subst h3
      go_wp2_with fail
      go_meet
      exact ⟨rfl, rfl⟩
    · by_cases h5 : a0 = 5
      · subst h5
        go_wp2_with fail
        go_meet
        exact ⟨rfl, rfl⟩
      · go_wp2_with fail
        go_meet
        exact ⟨by simp [fl], rfl⟩
  case rest =>
  obtain ⟨rfl, rfl⟩ := hcut
  go_wp2_with fail
  refine (vwithin_rb _ _ _).mono ?_
  rintro e w1 ⟨b1, H1, rfl, rfl⟩
  go_upto_region 3 with fail
  go_cut [5] (fun s wx => s = .bool (wi a2 1 16 && wi a3 1 16) ∧ wx = w.alloc (cfgB a0 a1 a2 a3 a4 a5 a6 a7 a8 a9))
  case first =>
    go_wp2_with fail
    refine (vwithin_rb _ _ _).mono ?_
    rintro e w1 ⟨b, H2, rfl, rfl⟩
    cases b with
    | false =>
      go_wp2_with fail
      go_meet
      exact ⟨by rw [H2.out]; rfl, rfl⟩
    | true =>
      go_wp2_with fail
      refine (vwithin_rb _ _ _).mono ?_
      rintro e w1 ⟨b, H3, rfl, rfl⟩
      go_wp2_with fail
      go_meet
      exact ⟨by rw [H2.out, H3.out]; rfl, rfl⟩
  case rest =>
  obtain ⟨rfl, rfl⟩ := hcut
  go_upto_region 4 with fail
  go_cut [6] (fun s wx => s = .bool (wi a4 (wrap64 (a2 + 1)) 256 && wi a5 a4 1024 && wi a6 1 a5) ∧ wx = w.alloc (cfgB a0 a1 a2 a3 a4 a5 a6 a7 a8 a9))
  case first =>
    go_wp2_with fail
    refine (vwithin_rb _ _ _).mono ?_
    rintro e w1 ⟨b, H2, rfl, rfl⟩
    cases b with
    | false =>
      go_wp2_with fail
      go_meet
      exact ⟨by rw [H2.out]; rfl, rfl⟩
    | true =>
      go_wp2_with fail
      refine (vwithin_rb _ _ _).mono ?_
      rintro e w1 ⟨b, H3, rfl, rfl⟩
      cases b with
      | false =>
        go_wp2_with fail
        go_meet
        exact ⟨by rw [H2.out, H3.out]; rfl, rfl⟩
      | true =>
        go_wp2_with fail
        refine (vwithin_rb _ _ _).mono ?_
        rintro e w1 ⟨b, H4, rfl, rfl⟩
        go_wp2_with fail
        go_meet
        exact ⟨by rw [H2.out, H3.out, H4.out]; rfl, rfl⟩
  case rest =>
  obtain ⟨rfl, rfl⟩ := hcut
  go_upto_region 5 with fail
  go_cut [7] (fun s wx => s = .bool (wi a8 2 64 && wi a7 1 (wrap64 (a8 - 1)) && wi a9 1 8) ∧ wx = w.alloc (cfgB a0 a1 a2 a3 a4 a5 a6 a7 a8 a9))
  case first =>
    go_wp2_with fail
    refine (vwithin_rb _ _ _).mono ?_
    rintro e w1 ⟨b, H2, rfl, rfl⟩
    cases b with
    | false =>
      go_wp2_with fail
      go_meet
      exact ⟨by rw [H2.out]; rfl, rfl⟩
    | true =>
      go_wp2_with fail
      refine (vwithin_rb _ _ _).mono ?_
      rintro e w1 ⟨b, H3, rfl, rfl⟩
      cases b with
      | false =>
        go_wp2_with fail
        go_meet
        exact ⟨by rw [H2.out, H3.out]; rfl, rfl⟩
      | true =>
        go_wp2_with fail
        refine (vwithin_rb _ _ _).mono ?_
        rintro e w1 ⟨b, H4, rfl, rfl⟩
        go_wp2_with fail
        go_meet
        exact ⟨by rw [H2.out, H3.out, H4.out]; rfl, rfl⟩
  case rest =>
  obtain ⟨rfl, rfl⟩ := hcut
  have e0 : cfgOK a0 a1 a2 a3 a4 a5 a6 a7 a8 a9 = (fl a0 && b1 && (wi a2 1 16 && wi a3 1 16) && (wi a4 (wrap64 (a2 + 1)) 256 && wi a5 a4 1024 && wi a6 1 a5) && (wi a8 2 64 && wi a7 1 (wrap64 (a8 - 1)) && wi a9 1 8)) := by
    rw [← H1.out]; simp only [cfgOK, Bool.and_assoc]
  have e0 := hid e0
  clear H1
  obtain ⟨b0, E0⟩ : ∃ b, Hid (fl a0 = b) := ⟨_, hid rfl⟩
  obtain ⟨b2, E2⟩ : ∃ b, Hid ((wi a2 1 16 && wi a3 1 16) = b) := ⟨_, hid rfl⟩
  obtain ⟨b3, E3⟩ : ∃ b, Hid ((wi a4 (wrap64 (a2 + 1)) 256 && wi a5 a4 1024 && wi a6 1 a5) = b) := ⟨_, hid rfl⟩
  obtain ⟨b4, E4⟩ : ∃ b, Hid ((wi a8 2 64 && wi a7 1 (wrap64 (a8 - 1)) && wi a9 1 8) = b) := ⟨_, hid rfl⟩
  rw [E0.out, E2.out, E3.out, E4.out]
  cases b0 with
  | false =>
    go_wp2
    go_ret
    exact ⟨by rw [cfgE_f (by simp only [e0.out, E0.out, E2.out, E3.out, E4.out, Bool.false_and])]; rfl, ba _ _⟩
  | true =>
    cases b1 with
    | false =>
      go_wp2
      go_ret
      exact ⟨by rw [cfgE_f (by simp only [e0.out, E0.out, E2.out, E3.out, E4.out, Bool.false_and, Bool.and_false])]; rfl, ba _ _⟩
    | true =>
      cases b2 with
      | false =>
        go_wp2
        go_ret
        exact ⟨by rw [cfgE_f (by simp only [e0.out, E0.out, E2.out, E3.out, E4.out, Bool.false_and, Bool.and_false, Bool.true_and])]; rfl, ba _ _⟩
      | true =>
        cases b3 with
        | false =>
          go_wp2
          go_ret
          exact ⟨by rw [cfgE_f (by simp only [e0.out, E0.out, E2.out, E3.out, E4.out, Bool.false_and, Bool.and_false, Bool.true_and])]; rfl, ba _ _⟩
        | true =>
          cases b4 with
          | false =>
            go_wp2
            go_ret
            exact ⟨by rw [cfgE_f (by simp only [e0.out, E0.out, E2.out, E3.out, E4.out, Bool.and_false, Bool.true_and])]; rfl, ba _ _⟩
          | true =>
            go_wp2
            go_ret
            exact ⟨by rw [cfgE_t (by simp only [e0.out, E0.out, E2.out, E3.out, E4.out, Bool.and_self])]; rfl, ba _ _⟩
end Go.Proofs.YtblojlaifnmimaaGreatDoor

import Derived.Test.YtfeppannfcbakaaGreatDoorJ4
import Derived.Deep.RegionHeld3
import Derived.Test.YtfeppannfcbakaaGreatDoorJ5
import Derived.Test.YtfeppannfcbakaaGreatDoorJ7
import Derived.Lib.OthersKept
import Derived.WalkSmall
namespace Go.Proofs.YtfeppannfcbakaaGreatDoor
open Go.RowKit
set_option linter.unusedVariables false

theorem cells_new {W : World} (m : List UInt8) : ∀ j u, (cellsB m)[j]? = some u → (W.alloc (.cells (cellsB m).toArray 5)).cell? ((⟨W.heap.size, 0, none⟩ : Addr).add j) = some u := by
  intro j u hu
  rw [Addr.add_lit, cell_at (heap_alloc_new W _)]
  simpa using hu
/-- Bytes laid behind one's own. -/
theorem app_bytes {W : World} {v : Value} {l : List UInt8} {cs : List Comp} (A : All (ownC 5 v (cellsB l) :: cs) W) (m : List UInt8) (h0 : 0 < m.length) (hl : l.length + m.length ≤ 140737488355328) :
    ∃ ao c w', (Builtin.append_ #[32, 32] 32 #[v, .slice (some ⟨W.heap.size, 0, none⟩) m.length m.length]).run Tryz.prog (W.alloc (.cells (cellsB m).toArray 5)) = .ok (.slice ao (l.length + m.length) c) w' ∧ All (ownC 5 (.slice ao (l.length + m.length) c) (cellsB (l ++ m)) :: cs) w' := by
  obtain ⟨i1, hi1, hz0, hz1, hz2⟩ := info_parts Tryz.info5
  have A1 := A.alloc (.cells (cellsB m).toArray 5)
  have hown : (W.alloc (.cells (cellsB m).toArray 5)).ownsRow 0 5 1 v (cellsB l).length (cellsB l) := A1.1.2.1
  obtain ⟨v', w', hr, h2, h3, h4, h5⟩ := run_append_own_at (P := Tryz.prog) (W.alloc (.cells (cellsB m).toArray 5)) 0 32 32 5 i1 (.int .u8 0) 1 1 Tryz.underlying32 hi1 hz0 hz1 hz2 rfl (by decide) v _ _ hown ⟨W.heap.size, 0, none⟩ m.length m.length (cellsB m) (by rw [cellsB_length]; omega) (cells_new m) (cellsB_one m) (by rw [cellsB_length]; unfold maxLen; omega) (by rw [cellsB_length]; omega) (by omega)
  obtain ⟨ao', c', rfl⟩ := owns_form h2
  rw [cellsB_length] at hr h2 h5
  refine ⟨ao', c', w', hr, A1.ownGrow (vs' := cellsB (l ++ m)) (base := 0) ?_ h3 h5⟩
  rw [cellsB_append, List.length_append, cellsB_length, cellsB_length]
  exact h2
theorem own_newB {W : World} {cs : List Comp} (A : All cs W) (m : List UInt8) (hm : m.length ≤ 1000) : All (ownC 5 (.slice (some ⟨W.heap.size, 0, none⟩) m.length m.length) (cellsB m) :: cs) (W.alloc (.cells (cellsB m).toArray 5)) := by
  refine A.addOwn (ba W _) ⟨by simp, Or.inr ⟨W.heap.size, m.length, (cellsB m).toArray, by rw [cellsB_length], Nat.le_refl _, heap_alloc_new W _, by rw [cellsB_length]; omega, by unfold maxLen; omega, by simp [cellsB_length], by simp⟩⟩

set_option maxHeartbeats 3200000 in
set_option maxRecDepth 1000000 in
theorem written_any {x : List UInt8} {w : World} (hl : x.length ≤ 10000000000000) :
    Calls Tryz.prog 42 #[.string ⟨x.toArray⟩] w fun e w' => e = .returned (.string ⟨(wrtW x).toArray⟩) ∧ Below w.heap.size w w' := by
  have I := hid (risBare_any (l := x) (w := w) (by omega))
  have hz : (⟨x.toArray⟩ : ByteArray).size = x.length := by simp [ByteArray.size]
  cases hx : isBareW x with
  | true =>
    have e1 : wrtW x = x := by unfold wrtW; rw [hx, if_pos rfl]
    rw [e1]
    clear e1
    generalize ByteArray.mk x.toArray = X at *
    go_enter Tryz.func42, Tryz.ntmps42
    go_wp2_with (go_at_call 77; refine I.out.mono ?_; rintro e w1 ⟨rfl, rfl⟩; rw [hx])
    go_ret
    exact ⟨rfl, Below.refl _ _⟩
  | false =>
    have e1 : wrtW x = 34 :: (escW x ++ [34]) := by unfold wrtW; rw [hx, if_neg (by simp)]
    rw [e1]
    have IX : Hid (∀ k, k < x.length → ∀ W, (Instr.index 9 (.string ⟨x.toArray⟩) (.int .i64 (k : Int))).run Tryz.prog W = .ok (.int .u8 ((x.getD k 0).toNat : Int)) W) := fun k hk W => idx_at hk W
    have N := hid (own_newB (All.came w) [34] (by simp))
    have ET : Hid (∀ k, k < x.length → escW (x.take (k + 1)) = escW (x.take k) ++ escB (x.getD k 0)) := hid (fun k hk => escW_take hk)
    have EB : Hid (∀ k, k ≤ x.length → (escW (x.take k)).length ≤ 4 * k) := hid (fun k hk => by
      have h1 := escW_len (x.take k)
      have h2 : (x.take k).length = k := by simp; omega
      omega)
    have E0 : Hid (escW (x.take 0) = []) := hid (by simp [escW])
    have EF : Hid (escW (x.take x.length) = escW x) := hid (by rw [List.take_length])
    clear e1
    generalize ByteArray.mk x.toArray = X at *
    generalize hn : x.length = n at *
    clear hn
    go_enter Tryz.func42, Tryz.ntmps42
    go_wp2_with (go_at_call 77; refine I.out.mono ?_; rintro e w1 ⟨rfl, hw1⟩; subst w1; rw [hx])
    go_loopw [4, 5] (fun ov iv wr => ∃ (k : Nat) (o : List UInt8) (ao : Option Addr) (c : Nat), k ≤ n ∧ iv = .int .i64 (k : Int) ∧ ov = .slice ao o.length c ∧ o.length ≤ 4 * k + 1 ∧ Hid (o = 34 :: escW (x.take k)) ∧ Hid (All (ownC 5 (.slice ao o.length c) (cellsB o) :: [inC w]) wr)) (fun _ iv _ => n - (intOf iv).toNat)
    case atStart => exact ⟨0, [34], some ⟨w.heap.size, 0, none⟩, 1, by omega, rfl, rfl, by simp, hid (by rw [E0.out]), N⟩
    case round =>
      obtain ⟨k, o, ao, c, hk, rfl, rfl, ho, hO, hA⟩ := hrel
      clear N
      by_cases hlt : k < n
      · have hlt' : (k : Int) < (n : Int) := by omega
        have ix := IX.out k hlt
        have et := hid (ET.out k hlt)
        generalize hb : x.getD k 0 = b at *
        clear hb
        have hb8 := b.toNat_lt
        by_cases hq : b.toNat = 34 ∨ b.toNat = 92
        · have eb : Hid (escB b = [92, b]) := hid (by unfold escB; rw [if_pos (by simp only [prnN, decide_eq_true_eq]; omega), if_pos hq])
          obtain ⟨ao1, c1, w1, hr, A1⟩ := app_bytes hA.out [92, b] (by simp) (by simp; omega)
          have nO : Hid (o ++ [92, b] = 34 :: escW (x.take (k + 1))) := hid (by rw [et.out, eb.out, hO.out]; rfl)
          have R : Hid ((Builtin.append_ #[32, 32] 32 #[.slice ao o.length c, .slice (some ⟨wr.heap.size, 0, none⟩) 2 2]).run Tryz.prog (wr.alloc (.cells #[.int .u8 92, .int .u8 (b.toNat : Int)] 5)) = .ok (.slice ao1 (o.length + 2) c1) w1) := hid hr
          have A2 := hid A1
          have EL := hid (show (o ++ [92, b]).length = o.length + 2 by simp)
          clear hr A1 hA
          generalize hno : o.length = no at *
          clear hno
          by_cases h34 : b.toNat = 34
          · have bi : (b.toNat : Int) = 34 := by omega
            rw [bi] at ix R
            clear bi h34 hq
            go_wp2_with (at_builtin; refine wpList_append_run rfl _ _ 32 rfl _ _ _ _ rfl rfl R.out ?_)
            go_roundw
            case rel => exact ⟨k + 1, o ++ [92, b], ao1, c1, by omega, by go_num, by rw [EL.out], by rw [EL.out]; omega, nO, hid (by rw [EL.out]; exact A2.out)⟩
            case measure => simp [intOf]; omega
          · have bi : (b.toNat : Int) = 92 := by omega
            rw [bi] at ix R
            clear bi h34 hq
            go_wp2_with (at_builtin; refine wpList_append_run rfl _ _ 32 rfl _ _ _ _ rfl rfl R.out ?_)
            go_roundw
            case rel => exact ⟨k + 1, o ++ [92, b], ao1, c1, by omega, by go_num, by rw [EL.out], by rw [EL.out]; omega, nO, hid (by rw [EL.out]; exact A2.out)⟩
            case measure => simp [intOf]; omega
        · have n34 : ((b.toNat : Int) == 34) = false := by simp; omega
          have n92 : ((b.toNat : Int) == 92) = false := by simp; omega
          by_cases hp : 32 ≤ b.toNat ∧ b.toNat ≤ 126
          · have eb : Hid (escB b = [b]) := hid (by unfold escB; rw [if_pos (by simp only [prnN, decide_eq_true_eq]; exact hp), if_neg hq])
            obtain ⟨ao1, c1, w1, hr, A1⟩ := app_byte hA.out b (by omega)
            have nO : Hid (o ++ [b] = 34 :: escW (x.take (k + 1))) := hid (by rw [et.out, eb.out, hO.out]; rfl)
            have R := hid hr
            have A2 := hid A1
            have EL := hid (show (o ++ [b]).length = o.length + 1 by simp)
            have p1 : (32 : Int) ≤ b.toNat := by omega
            have p2 : (b.toNat : Int) ≤ 126 := by omega
            clear hr A1 hA hq hp
            generalize hno : o.length = no at *
            clear hno
            generalize (b.toNat : Int) = bi at *
            go_wp2_with (at_builtin; refine wpList_append_run rfl _ _ 32 rfl _ _ _ _ rfl rfl R.out ?_)
            go_roundw
            case rel => exact ⟨k + 1, o ++ [b], ao1, c1, by omega, by go_num, by rw [EL.out], by rw [EL.out]; omega, nO, hid (by rw [EL.out]; exact A2.out)⟩
            case measure => simp [intOf]; omega
          · have eb : Hid (escB b = [92, 120, hexD (b.toNat / 16), hexD (b.toNat % 16)]) := hid (by unfold escB; rw [if_neg (by simp only [prnN, decide_eq_true_eq]; exact hp)])
            have hA0 := hid hA.out.drew
            obtain ⟨ao1, c1, w1, hr, A1⟩ := app_bytes hA0.out [92, 120, hexD (b.toNat / 16), hexD (b.toNat % 16)] (by simp) (by simp; omega)
            have nO : Hid (o ++ [92, 120, hexD (b.toNat / 16), hexD (b.toNat % 16)] = 34 :: escW (x.take (k + 1))) := hid (by rw [et.out, eb.out, hO.out]; rfl)
            have EL := hid (show (o ++ [92, 120, hexD (b.toNat / 16), hexD (b.toNat % 16)]).length = o.length + 4 by simp)
            have i1 := idx_hex (n := b.toNat / 16) (by omega)
            have i2 := idx_hex (n := b.toNat % 16) (by omega)
            have q1 : (b.toNat : Int) / 16 = ((b.toNat / 16 : Nat) : Int) := by omega
            have q2 : (b.toNat : Int).tdiv 16 = ((b.toNat / 16 : Nat) : Int) := by rw [Int.tdiv_eq_ediv_of_nonneg (by omega)]; omega
            have q3 : (b.toNat : Int).tmod 16 = ((b.toNat % 16 : Nat) : Int) := by rw [Int.tmod_eq_emod_of_nonneg (by omega)]; omega
            have q4 : (b.toNat : Int) % 16 = ((b.toNat % 16 : Nat) : Int) := by omega
            have wf : ∀ a : Fin 16, IntKind.u8.wrap (a.val : Int) = a.val := by decide +kernel
            have w1' := wf ⟨b.toNat / 16, by omega⟩
            have w2' := wf ⟨b.toNat % 16, by omega⟩
            simp only at w1' w2'
            clear wf
            have A2 := hid A1
            generalize b.toNat / 16 = n1 at *
            generalize b.toNat % 16 = n2 at *
            generalize hexD n1 = d1 at *
            generalize hexD n2 = d2 at *
            have R : Hid ((Builtin.append_ #[32, 32] 32 #[.slice ao o.length c, .slice (some ⟨wr.heap.size, 0, none⟩) 4 4]).run Tryz.prog (wr.drew.alloc (.cells #[.int .u8 92, .int .u8 120, .int .u8 (d1.toNat : Int), .int .u8 (d2.toNat : Int)] 5)) = .ok (.slice ao1 (o.length + 4) c1) w1) := hid hr
            clear hr A1 hA hA0 eb et hq
            generalize hno : o.length = no at *
            clear hno
            generalize (d1.toNat : Int) = d1i at *
            generalize (d2.toNat : Int) = d2i at *
            by_cases p1 : (32 : Int) ≤ b.toNat
            · have p2 : ¬ (b.toNat : Int) ≤ 126 := by omega
              clear hp
              generalize (b.toNat : Int) = bi at *
              go_wp2
              go_region_held3 (fun _ => True) (trivial) (first | (refine step_append_run (by rfl) (.tmp 40) (.tmp 49) 32 (by rfl) _ _ _ _ (by rfl) (by rfl) R.out ?_))
              all_goals go_wp2
              all_goals (try go_roundw)
              all_goals first | exact ⟨k + 1, o ++ [92, 120, d1, d2], ao1, c1, by omega, by go_num, by rw [EL.out], by rw [EL.out]; omega, nO, hid (by rw [EL.out]; exact A2.out)⟩ | (simp [intOf]; omega) | exact ⟨⟨k + 1, o ++ [92, 120, d1, d2], ao1, c1, by omega, by go_num, by rw [EL.out], by rw [EL.out]; omega, nO, hid (by rw [EL.out]; exact A2.out)⟩, by simp [intOf]; omega⟩
            · clear hp
              generalize (b.toNat : Int) = bi at *
              go_wp2
              go_region_held3 (fun _ => True) (trivial) (first | (refine step_append_run (by rfl) (.tmp 40) (.tmp 49) 32 (by rfl) _ _ _ _ (by rfl) (by rfl) R.out ?_))
              all_goals go_wp2
              all_goals (try go_roundw)
              all_goals first | exact ⟨k + 1, o ++ [92, 120, d1, d2], ao1, c1, by omega, by go_num, by rw [EL.out], by rw [EL.out]; omega, nO, hid (by rw [EL.out]; exact A2.out)⟩ | (simp [intOf]; omega) | exact ⟨⟨k + 1, o ++ [92, 120, d1, d2], ao1, c1, by omega, by go_num, by rw [EL.out], by rw [EL.out]; omega, nO, hid (by rw [EL.out]; exact A2.out)⟩, by simp [intOf]; omega⟩
      · have hlt' : ¬ (k : Int) < (n : Int) := by omega
        have ek : k = n := by omega
        obtain ⟨ao1, c1, w1, hr, A1⟩ := app_byte hA.out 34 (by omega)
        have c34 : ((34 : UInt8).toNat : Int) = 34 := by decide
        rw [c34] at hr
        have R := hid hr
        have EL := hid (show (o ++ [34]).length = o.length + 1 by simp)
        have cv : (convert 32 9 (.slice ao1 (o.length + 1) c1)).run Tryz.prog w1 = .ok (.string ⟨(o ++ [34]).toArray⟩) w1 := conv_string (reads_own A1)
        have fin : Hid (o ++ [34] = 34 :: (escW x ++ [34])) := hid (by rw [hO.out, ek, EF.out]; rfl)
        have BL := hid (A1.into (w0 := w) (by simp))
        rw [fin.out] at cv
        clear hr A1 hA ek c34 fin hO
        generalize hY : ByteArray.mk (34 :: (escW x ++ [34])).toArray = Y at *
        have HY := hid hY
        clear hY
        generalize hno : o.length = no at *
        clear hno
        go_wp2_with (at_builtin; refine wpList_append_run rfl _ _ 32 rfl _ _ _ _ rfl rfl R.out ?_)
        go_ret
        exact ⟨by rw [HY.out]; rfl, BL.out⟩
end Go.Proofs.YtfeppannfcbakaaGreatDoor

namespace Go.Proofs.YtfeppannfcbakaaGreatDoor
open Go.RowKit
set_option linter.unusedVariables false

theorem ba_app (a b : List UInt8) : (⟨a.toArray⟩ : ByteArray) ++ ⟨b.toArray⟩ = ⟨(a ++ b).toArray⟩ := by
  apply ByteArray.ext
  simp
theorem ba_size (a : List UInt8) : (⟨a.toArray⟩ : ByteArray).size = a.length := by simp [ByteArray.size]

set_option maxHeartbeats 1600000 in
set_option maxRecDepth 1000000 in
theorem rJoin_any {s : Value} {ws : Ws} {w : World} (hs : Rt w s ws) (hn : ws.length ≤ 140737488355328) (hl : lenJ ws ≤ 10000000000000) :
    Calls Tryz.prog 18 #[s] w fun e w' => e = .returned (.string ⟨(joinW ws).toArray⟩) ∧ Below w.heap.size w w' := by
  obtain ⟨ao, c, rfl⟩ := hs.form
  have HS := hid hs
  have WR : Hid (∀ k W, k < ws.length → Calls Tryz.prog 42 #[.string ⟨(ws.getD k []).toArray⟩] W fun e w' => e = .returned (.string ⟨(wrtW (ws.getD k [])).toArray⟩) ∧ Below W.heap.size W w') := hid (fun k W hk => written_any (by
    have h2 := lenJ_le ws (k + 1)
    rw [lenJ_take hk] at h2
    omega))
  have FK : Hid (∀ k, k < ws.length → (⟨(preW (ws.take k)).toArray⟩ : ByteArray) ++ ⟨(wrtW (ws.getD k [])).toArray⟩ = ⟨(joinW (ws.take (k + 1))).toArray⟩ ∧ ¬ 9223372036854775807 < (⟨(preW (ws.take k)).toArray⟩ : ByteArray).size + (⟨(wrtW (ws.getD k [])).toArray⟩ : ByteArray).size) := hid (fun k hk => by
    refine ⟨by rw [ba_app, take_snoc hk, joinW_snoc], ?_⟩
    rw [ba_size, ba_size]
    have h1 := joinW_len ws k (by omega)
    have h2 := lenJ_le ws (k + 1)
    rw [lenJ_take hk] at h2
    have h3 := preW_len (ws.take k)
    have h4 := wrtW_len (ws.getD k [])
    omega)
  have FS : Hid (∀ k, 0 < k → k < ws.length → (⟨(joinW (ws.take k)).toArray⟩ : ByteArray) ++ ⟨#[32]⟩ = ⟨(preW (ws.take k)).toArray⟩ ∧ ¬ 9223372036854775807 < (⟨(joinW (ws.take k)).toArray⟩ : ByteArray).size + (⟨#[32]⟩ : ByteArray).size) := hid (fun k h0 hk => by
    have e2 : preW (ws.take k) = joinW (ws.take k) ++ [32] := by
      unfold preW
      rw [if_neg (fun e => by have := congrArg List.length e; rw [List.length_take, List.length_nil] at this; omega)]
    refine ⟨by rw [e2, ← ba_app], ?_⟩
    rw [ba_size]
    have h1 := joinW_len ws k (by omega)
    have h2 := lenJ_le ws k
    have h3 : (⟨#[32]⟩ : ByteArray).size = 1 := rfl
    omega)
  have P0 : Hid (preW (ws.take 0) = joinW (ws.take 0)) := hid (by simp [preW, joinW])
  have J0 : Hid ((⟨(joinW (ws.take 0)).toArray⟩ : ByteArray) = ⟨#[]⟩) := hid (by simp [joinW])
  have FN : Hid ((⟨(joinW (ws.take ws.length)).toArray⟩ : ByteArray) = ⟨(joinW ws).toArray⟩) := hid (by rw [List.take_length])
  clear hs hl
  generalize hJ : ByteArray.mk (joinW ws).toArray = J at *
  clear hJ
  generalize hnw : ws.length = n at *
  have HN := hid hnw
  clear hnw
  go_enter Tryz.func18, Tryz.ntmps18
  go_wp2
  go_loopw [3, 8] (fun sv iv wr => ∃ (k : Nat) (S : ByteArray), k ≤ n ∧ iv = .int .i64 (k : Int) ∧ sv = .string S ∧ Hid (S = ⟨(joinW (ws.take k)).toArray⟩) ∧ Hid (Below w.heap.size w wr)) (fun _ iv _ => n - (intOf iv).toNat)
  case atStart => exact ⟨0, ⟨#[]⟩, by omega, rfl, rfl, hid J0.out.symm, hid (Below.refl _ _)⟩
  case round =>
    obtain ⟨k, S, hk, rfl, rfl, hS, hB⟩ := hrel
    by_cases hlt : k < n
    · obtain ⟨g, o, rfl, _, h1⟩ := (HS.out.later hB.out).at (j := k) (by rw [HN.out]; exact hlt)
      have hlt' : (k : Int) < (n : Int) := by omega
      have Q := hid (WR.out k wr hlt)
      obtain ⟨f1, f2⟩ := FK.out k hlt
      by_cases h0 : k = 0
      · have eS : Hid ((⟨(preW (ws.take k)).toArray⟩ : ByteArray) = S) := hid (by rw [hS.out, h0, P0.out])
        rw [eS.out] at f1 f2
        have hz : ¬ (0 : Int) < (k : Int) := by omega
        generalize ByteArray.mk (ws.getD k []).toArray = X at *
        generalize ByteArray.mk (wrtW (ws.getD k [])).toArray = Y at *
        generalize hN : ByteArray.mk (joinW (ws.take (k + 1))).toArray = N at *
        have HNN := hid hN
        clear h0 hN
        go_wp2_with (go_at_call 42; refine Q.out.mono ?_; rintro e w2 ⟨rfl, B2⟩; have BB2 := hid (hB.out.trans (B2.mono hB.out.size)); clear B2)
        go_roundw
        case rel => exact ⟨k + 1, N, by omega, by go_num, rfl, hid HNN.out.symm, BB2⟩
        case measure => simp [intOf]; omega
      · obtain ⟨g1, g2⟩ := FS.out k (by omega) hlt
        rw [← hS.out] at g1 g2
        have hz : (0 : Int) < (k : Int) := by omega
        generalize ByteArray.mk (ws.getD k []).toArray = X at *
        generalize ByteArray.mk (wrtW (ws.getD k [])).toArray = Y at *
        generalize ByteArray.mk (preW (ws.take k)).toArray = Z at *
        generalize hN : ByteArray.mk (joinW (ws.take (k + 1))).toArray = N at *
        have HNN := hid hN
        clear h0 hN
        go_wp2_with (go_at_call 42; refine Q.out.mono ?_; rintro e w2 ⟨rfl, B2⟩; have BB2 := hid (hB.out.trans (B2.mono hB.out.size)); clear B2)
        go_roundw
        case rel => exact ⟨k + 1, N, by omega, by go_num, rfl, hid HNN.out.symm, BB2⟩
        case measure => simp [intOf]; omega
    · have hlt' : ¬ (k : Int) < (n : Int) := by omega
      have ek : k = n := by omega
      have fin : Hid (S = J) := hid (by rw [hS.out, ek, FN.out])
      clear ek
      go_wp2
      go_ret
      exact ⟨by rw [← fin.out]; rfl, hB.out⟩
end Go.Proofs.YtfeppannfcbakaaGreatDoor

namespace Go.Proofs.YtfeppannfcbakaaGreatDoor
open Go.RowKit
set_option linter.unusedVariables false

/-- Where a word stands in a list from a place on. -/
def findW (x : List UInt8) : Nat → Ws → Option Nat
  | _, [] => none
  | k, y :: r => if y = x then some k else findW x (k + 1) r
theorem findW_at {x : List UInt8} {k : Nat} {l : Ws} (hk : k < l.length) : findW x k (l.drop k) = if l.getD k [] = x then some k else findW x (k + 1) (l.drop (k + 1)) := by
  rw [List.drop_eq_getElem_cons hk, findW]
  simp [List.getD, hk]
/-- A place, or -1. -/
def idxI (o : Option Nat) : Int := match o with | none => -1 | some k => (k : Int)
/-- Texts laid behind one's own. -/
theorem appR {W : World} {v v2 : Value} {l l2 : Ws} {cs : List Comp} (A : All (ownC 9 v (txW l) :: cs) W) (h2 : Rt W v2 l2) (hl : (l.length + l2.length) * 16 ≤ 140737488355328) :
    ∃ ao c w', (Builtin.append_ #[27, 27] 27 #[v, v2]).run Tryz.prog W = .ok (.slice ao (l.length + l2.length) c) w' ∧ All (ownC 9 (.slice ao (l.length + l2.length) c) (txW (l ++ l2)) :: cs) w' := by
  obtain ⟨i1, hi1, hz0, hz1, hz2⟩ := info_parts Tryz.info9
  obtain ⟨ao2, c2, rfl, hc2, hx⟩ := h2
  have hown : W.ownsRow 0 9 1 v (txW l).length (txW l) := A.1.2.1
  obtain ⟨ao, c, rfl⟩ := owns_form hown
  have e1 : txW (l ++ l2) = txW l ++ txW l2 := by simp [txW]
  rcases hx with rfl | ⟨g, o, rfl, hg, hcell⟩
  · refine ⟨ao, c, W, ?_, ?_⟩
    · have := run_append_nothing W 27 27 27 9 i1 Tryz.underlying27 hi1 ao (txW l).length c (owns_len hown).2 (.slice ao2 0 c2) (srcNil Tryz.underlying27 ao2 c2)
      simpa [txW_length] using this
    · rw [txW_length] at A
      simpa using A
  · have k1 : (txW l).length + l2.length ≤ maxLen := by rw [txW_length]; unfold maxLen; omega
    have k2 : ((txW l).length + l2.length) * 16 ≤ 140737488355328 := by rw [txW_length]; omega
    have k3 : (txW l2).length = l2.length * 1 := by rw [txW_length]; omega
    have k4 : ∀ u ∈ txW l2, u.oneCell' = true := fun u hu => by
      obtain ⟨y, _, rfl⟩ := List.mem_map.1 hu
      rfl
    obtain ⟨v', w', hr, h2, h3, h4, h5⟩ := run_append_own_at (P := Tryz.prog) W 0 27 27 9 i1 (.string ⟨#[]⟩) 1 16 Tryz.underlying27 hi1 hz0 hz1 hz2 rfl (by decide) (.slice ao (txW l).length c) (txW l).length (txW l) hown ⟨g, o, none⟩ l2.length c2 (txW l2) k3
      (fun j u hu => by
        have hj : j < l2.length := by rw [← txW_length]; exact (List.getElem?_eq_some_iff.1 hu).1
        rw [Addr.add_lit, hcell j hj, ← hu]
        simp [txW, hj]) k4 k1 k2 (Nat.zero_le _)
    obtain ⟨ao', c', rfl⟩ := owns_form h2
    have el : (txW l).length + l2.length = l.length + l2.length := by rw [txW_length]
    rw [el] at hr h2 h5
    refine ⟨ao', c', w', hr, A.ownGrow (vs' := txW (l ++ l2)) (base := 0) ?_ h3 h5⟩
    rw [e1, List.length_append, txW_length, txW_length]
    exact h2
theorem own_new {W : World} {cs : List Comp} (A : All cs W) (m : Ws) (hm : m.length ≤ 1000) : All (ownC 9 (.slice (some ⟨W.heap.size, 0, none⟩) m.length m.length) (txW m) :: cs) (W.alloc (.cells (txW m).toArray 9)) := by
  refine A.addOwn (ba W _) ⟨by simp, Or.inr ⟨W.heap.size, m.length, (txW m).toArray, by rw [txW_length], Nat.le_refl _, heap_alloc_new W _, by rw [txW_length]; omega, by unfold maxLen; omega, by simp [txW_length], by simp⟩⟩

set_option maxRecDepth 1000000 in
/-- A list of its own of a word and those behind it. -/
theorem row_any {x : List UInt8} {v : Value} {l : Ws} {cs : List Comp} {w : World} (A : All cs w) (h : Rt w v l) (hl : (1 + l.length) * 16 ≤ 140737488355328) :
    Calls Tryz.prog 120 #[.string ⟨x.toArray⟩, v] w fun e w' => ∃ ao c, e = .returned (.slice ao (1 + l.length) c) ∧ All (ownC 9 (.slice ao (1 + l.length) c) (txW (x :: l)) :: cs) w' := by
  obtain ⟨ao, c, w', hr, A2⟩ := appR (own_new A [x] (by simp)) (h.later (ba w _)) (by simpa using hl)
  obtain ⟨ao0, c0, rfl⟩ := h.form
  have R : Hid ((Builtin.append_ #[27, 27] 27 #[.slice (some ⟨w.heap.size, 0, none⟩) 1 1, .slice ao0 l.length c0]).run Tryz.prog (w.alloc (.cells #[.string ⟨x.toArray⟩] 9)) = .ok (.slice ao (1 + l.length) c) w') := hid hr
  have B := hid A2
  clear hr A2 A h hl
  generalize hn : l.length = n at *
  clear hn
  generalize ByteArray.mk x.toArray = X at *
  go_enter Tryz.func120, Tryz.ntmps120
  go_wp2_with (at_builtin; refine wpList_append_run rfl _ _ 27 rfl _ _ _ _ rfl rfl R.out ?_)
  go_ret
  exact ⟨ao, c, rfl, B.out⟩

end Go.Proofs.YtfeppannfcbakaaGreatDoor

namespace Go.Proofs.YtfeppannfcbakaaGreatDoor
open Go.RowKit
set_option linter.unusedVariables false

/-- A part of a list of texts. -/
theorem cut_rt {w : World} {ao : Option Addr} {n c : Nat} {l : Ws} (h : Rt w (.slice ao n c) l) {lo hi : Nat} (h1 : lo ≤ hi) (h2 : hi ≤ l.length) : Rt w (sliced ao lo hi c 1) ((l.drop lo).take (hi - lo)) := by
  obtain ⟨ao', c', e, hc, hx⟩ := h
  simp only [Value.slice.injEq] at e
  obtain ⟨rfl, rfl, rfl⟩ := e
  have hl : ((l.drop lo).take (hi - lo)).length = hi - lo := by simp; omega
  refine ⟨_, _, by rw [hl]; rfl, by omega, ?_⟩
  by_cases h0 : lo = hi
  · left; subst h0; simp
  · right
    rcases hx with rfl | ⟨g, o, rfl, hg, hcell⟩
    · simp at h2; omega
    · have hne : c ≠ lo := by omega
      refine ⟨g, o + lo, by rw [if_neg hne]; simp [Addr.add_lit], hg, fun j hj => ?_⟩
      have hj' : lo + j < l.length := by rw [hl] at hj; omega
      have := hcell (lo + j) hj'
      rw [Nat.add_assoc, this]
      simp
theorem Tryz.elem28 (W : World) : (sizeOf (Tryz.prog.elem 27)).run Tryz.prog W = .ok 1 W := by kernel_rfl
set_option maxRecDepth 1000000 in
theorem cut_l {w : World} {ao : Option Addr} {c : Nat} {l : Ws} (h : Rt w (.slice ao l.length c) l) {a : Nat} (ha : a ≤ l.length) {x : Int} (hx : x = (a : Int)) : ∃ ao' c', (∀ W, (Instr.slice 27 (.slice ao l.length c) (some (.int .i64 x)) none none).run Tryz.prog W = .ok (.slice ao' (l.length - a) c') W) ∧ Rt w (.slice ao' (l.length - a) c') (l.drop a) := by
  have hr := cut_rt h (lo := a) (hi := l.length) ha (Nat.le_refl _)
  rw [List.take_of_length_le (by simp)] at hr
  refine ⟨_, _, fun W => ?_, hr⟩
  rw [run_slice_l W 27 ao l.length c Tryz.underlying27 .i64 x (by omega) (by omega), Tryz.elem28, hx, Int.toNat_natCast]
  rfl
set_option maxRecDepth 1000000 in
theorem cut_h {w : World} {ao : Option Addr} {n c : Nat} {l : Ws} (h : Rt w (.slice ao n c) l) {b : Nat} (hb : b ≤ l.length) {x : Int} (hx : x = (b : Int)) : ∃ ao' c', (∀ W, (Instr.slice 27 (.slice ao n c) none (some (.int .i64 x)) none).run Tryz.prog W = .ok (.slice ao' b c') W) ∧ Rt w (.slice ao' b c') (l.take b) := by
  have hc : l.length ≤ c := by obtain ⟨_, _, e, hc, _⟩ := h; simp only [Value.slice.injEq] at e; omega
  have hr := cut_rt h (lo := 0) (hi := b) (by omega) hb
  rw [List.drop_zero, Nat.sub_zero] at hr
  have e0 : sliced ao 0 b c 1 = .slice (if c = 0 then ao else ao.map (·.add (0 * 1))) b c := rfl
  rw [e0] at hr
  refine ⟨_, _, fun W => ?_, hr⟩
  rw [run_slice_h W 27 ao n c Tryz.underlying27 .i64 x (by omega) (by omega), Tryz.elem28, hx, Int.toNat_natCast]
  rfl
set_option maxRecDepth 1000000 in
theorem cut_lh {w : World} {ao : Option Addr} {n c : Nat} {l : Ws} (h : Rt w (.slice ao n c) l) {a b : Nat} (hb : a + b ≤ l.length) {x y : Int} (hx : x = (a : Int)) (hy : y = (a : Int) + b) : ∃ ao' c', (∀ W, (Instr.slice 27 (.slice ao n c) (some (.int .i64 x)) (some (.int .i64 y)) none).run Tryz.prog W = .ok (.slice ao' b c') W) ∧ Rt w (.slice ao' b c') ((l.drop a).take b) := by
  have hc : l.length ≤ c := by obtain ⟨_, _, e, hc, _⟩ := h; simp only [Value.slice.injEq] at e; omega
  have hr := cut_rt h (lo := a) (hi := a + b) (by omega) hb
  rw [Nat.add_sub_cancel_left] at hr
  have e0 : sliced ao a (a + b) c 1 = .slice (if c = a then ao else ao.map (·.add (a * 1))) b (c - a) := by unfold sliced; rw [Nat.add_sub_cancel_left]
  rw [e0] at hr
  refine ⟨_, _, fun W => ?_, hr⟩
  have ey : y.toNat = a + b := by omega
  rw [run_slice_lh W 27 ao n c Tryz.underlying27 .i64 .i64 x y (by omega) (by omega) (by omega), Tryz.elem28, ey, hx, Int.toNat_natCast]
  show Result.ok (sliced ao a (a + b) c 1) W = _
  rw [e0]

end Go.Proofs.YtfeppannfcbakaaGreatDoor

namespace Go.Proofs.YtfeppannfcbakaaGreatDoor
open Go.RowKit
set_option linter.unusedVariables false

theorem All.del {c d : Comp} {cs : List Comp} {w : World} (h : All (c :: d :: cs) w) : All (c :: cs) w := h.swap.tail
def WRPost (ws : Ws) (x : Int) (cs : List Comp) (en : Ending) (w' : World) : Prop :=
  ∃ v, en = .returned (.tuple #[v, .int .i64 x]) ∧ All (ownC 9 v (txW ws) :: cs) w'
theorem rt_nil (w : World) : Rt w (.slice none 0 0) [] := ⟨none, 0, rfl, Nat.le_refl _, Or.inl rfl⟩
theorem row2 {x : List UInt8} {v : Value} {l : Ws} {cs : List Comp} {w : World} (A : All cs w) (h : Rt w v l) (hl : l.length ≤ 1000) :
    Calls Tryz.prog 120 #[.string ⟨x.toArray⟩, v] w fun e w' => ∃ v', e = .returned v' ∧ All (ownC 9 v' (txW (x :: l)) :: cs) w' :=
  Calls.mono (row_any A h (by omega)) fun e w' ⟨ao, c, he, hA⟩ => ⟨_, he, hA⟩
theorem itoa_nat (n : Nat) : Lib.itoa (n : Int) = Lib.decDigits n := by
  unfold Lib.itoa
  rw [if_neg (by omega)]
  congr 1

end Go.Proofs.YtfeppannfcbakaaGreatDoor

namespace Go.Proofs.YtfeppannfcbakaaGreatDoor
open Go.RowKit Go.Lib
set_option linter.unusedVariables false

/-- A kind's word and its letters. -/
def nmN (k : Nat) : List UInt8 := (wfN.getD k ([], [])).1
def ltN (k : Nat) : List UInt8 := (wfN.getD k ([], [])).2
/-- The table of the kinds' forms. -/
def Wf (w : World) : Prop := 2 < w.heap.size ∧ ∀ k, k < 9 → w.cell? ⟨2, k * 2, none⟩ = some (.string ⟨(nmN k).toArray⟩) ∧ w.cell? ⟨2, k * 2 + 1, none⟩ = some (.string ⟨(ltN k).toArray⟩)
theorem Wf.later {w w' : World} (h : Wf w) (hb : Below w.heap.size w w') : Wf w' := ⟨Nat.lt_of_lt_of_le h.1 hb.size, fun k hk => ⟨cell_under hb h.1 (h.2 k hk).1, cell_under hb h.1 (h.2 k hk).2⟩⟩
theorem ltN_in {k : Nat} {x : UInt8} (h : x ∈ ltN k) : x.toNat = 78 ∨ x.toNat = 84 ∨ x.toNat = 75 ∨ x.toNat = 77 := by
  have key : ∀ p ∈ wfN, ∀ x ∈ p.2, x.toNat = 78 ∨ x.toNat = 84 ∨ x.toNat = 75 ∨ x.toNat = 77 := by decide
  unfold ltN at h
  by_cases hk : k < wfN.length
  · rw [List.getD, List.getElem?_eq_getElem hk] at h
    exact key _ (List.getElem_mem hk) x h
  · rw [List.getD, List.getElem?_eq_none (by omega)] at h
    cases h
theorem ltN_len (k : Nat) : (ltN k).length ≤ 3 := by
  have key : ∀ p ∈ wfN, p.2.length ≤ 3 := by decide
  unfold ltN
  by_cases hk : k < wfN.length
  · rw [List.getD, List.getElem?_eq_getElem hk]
    exact key _ (List.getElem_mem hk)
  · rw [List.getD, List.getElem?_eq_none (by omega)]
    simp
/-- A field's word. -/
def fieldW (nm tx : List UInt8) (n m : Nat) (c : Nat) : List UInt8 := if c = 78 then nm else if c = 84 then tx else if c = 75 then Lib.decDigits n else Lib.decDigits m
def flds (nm tx : List UInt8) (n m : Nat) (lt : List UInt8) : Ws := lt.map fun c => fieldW nm tx n m c.toNat
theorem flds_snoc (nm tx : List UInt8) (n m : Nat) {lt : List UInt8} {p : Nat} (h : p < lt.length) : flds nm tx n m (lt.take (p + 1)) = flds nm tx n m (lt.take p) ++ [fieldW nm tx n m (lt.getD p 0).toNat] := by
  rw [take_snocB h]
  simp [flds]

/-- A string's reader on its way. -/
def itC (g : Nat) (s : ByteArray) (p : Nat) : Comp := ⟨fun w => w.heap[g]? = some (.stringIter s p), [g]⟩
theorem itC_good (g : Nat) (s : ByteArray) (p : Nat) : (itC g s p).Good := fun w w' h _ hb => (hb g (by simp [itC])).trans h
theorem iter_below (w : World) (s : ByteArray) : Below w.heap.size w (w.iter s 0) := ba w _
theorem All.addIt {cs : List Comp} {w : World} (h : All cs w) (s : ByteArray) : All (itC w.heap.size s 0 :: cs) (w.iter s 0) := by
  refine h.add (Fr.below (iter_below w s)) (itC_good _ _ _) (World.iter_heap w s 0) (fun k hk => ?_)
  have : k = w.heap.size := by simpa [itC] using hk
  subst this
  exact ⟨Nat.le_refl _, by simp [World.iter]⟩
theorem All.setIt {g : Nat} {s : ByteArray} {p : Nat} {cs : List Comp} {w : World} (h : All (itC g s p :: cs) w) (q : Nat) : All (itC g s q :: cs) (w.iterAt g s q) := by
  have hg : w.heap[g]? = some (.stringIter s p) := h.1.2.1
  refine h.turn ⟨rfl, rfl, rfl, by simp [World.iterAt], fun k hk hF => ?_⟩ (itC_good _ _ _) (iterAt_heap w g s p q hg) (fun k hk => Or.inl hk) (fun k hk => ?_)
  · have hne : g ≠ k := fun e => hF (by simp [itC, e])
    simp only [World.iterAt]
    rw [Array.getElem?_setIfInBounds_ne hne]
  · have : k = g := by simpa [itC] using hk
    subst this
    simpa [World.iterAt] using h.1.2.2 k (by simp [itC])
theorem next_at {w : World} {g : Nat} {lt : List UInt8} {p : Nat} {cs : List Comp} (h : All (itC g ⟨lt.toArray⟩ p :: cs) w) (hp : p < lt.length) (ha : (lt.getD p 0).toNat < 128) :
    (Instr.next (.pointer (some ⟨g, 0, none⟩)) true 0).run Tryz.prog w = .ok (.tuple #[.bool true, .int .i64 (p : Int), .int .i32 ((lt.getD p 0).toNat : Int)]) (w.iterAt g ⟨lt.toArray⟩ (p + 1)) := by
  have hs : (⟨lt.toArray⟩ : ByteArray).size = lt.length := by simp [ByteArray.size]
  have e : (⟨lt.toArray⟩ : ByteArray)[p]'(by rw [hs]; exact hp) = lt.getD p 0 := by
    show ByteArray.get _ _ _ = _
    simp [ByteArray.get, List.getD, hp]
  have := run_next_ascii_at (P := Tryz.prog) w g ⟨lt.toArray⟩ p 0 h.1.2.1 (by rw [hs]; exact hp) (by rw [e]; exact ha)
  rw [e] at this
  exact this
theorem next_end {w : World} {g : Nat} {lt : List UInt8} {p : Nat} {cs : List Comp} (h : All (itC g ⟨lt.toArray⟩ p :: cs) w) (hp : ¬ p < lt.length) :
    (Instr.next (.pointer (some ⟨g, 0, none⟩)) true 0).run Tryz.prog w = .ok (.tuple #[.bool false]) w :=
  run_next_end_at (P := Tryz.prog) w g ⟨lt.toArray⟩ p 0 h.1.2.1 (by simpa [ByteArray.size] using hp)

set_option maxHeartbeats 800000 in
set_option maxRecDepth 1000000 in
theorem field_any {k : Int} {nm tx : List UInt8} {n m c : Nat} {w : World} (V : Vars w) (hn : n ≤ 1099511627776) (hm : m ≤ 1099511627776) (hc : c = 78 ∨ c = 84 ∨ c = 75 ∨ c = 77) :
    Calls Tryz.prog 119 #[opV k ⟨nm.toArray⟩ ⟨tx.toArray⟩ (n : Int) (m : Int), .int .i32 (c : Int)] w fun e w' => e = .returned (.string ⟨(fieldW nm tx n m c).toArray⟩) ∧ Below w.heap.size w w' := by
  have b0 := ba w (.cells #[.int .i64 k, .string ⟨nm.toArray⟩, .string ⟨tx.toArray⟩, .int .i64 (n : Int), .int .i64 (m : Int)] 24)
  have I1 := Itoa_any (v := (n : Int)) (V.later b0) (by omega) (by omega)
  have I2 := Itoa_any (v := (m : Int)) (V.later b0) (by omega) (by omega)
  rw [itoa_nat] at I1 I2
  have B := hid b0
  have J1 := hid I1
  have J2 := hid I2
  clear I1 I2 V hn hm b0
  rcases hc with rfl | rfl | rfl | rfl
  · have e1 : fieldW nm tx n m 78 = nm := rfl
    rw [e1]
    clear e1 J1 J2
    generalize ByteArray.mk nm.toArray = X1 at *
    generalize ByteArray.mk tx.toArray = X2 at *
    go_enter Tryz.func119, Tryz.ntmps119
    go_wp2
    go_ret
    exact ⟨rfl, B.out⟩
  · have e1 : fieldW nm tx n m 84 = tx := rfl
    rw [e1]
    clear e1 J1 J2
    generalize ByteArray.mk nm.toArray = X1 at *
    generalize ByteArray.mk tx.toArray = X2 at *
    go_enter Tryz.func119, Tryz.ntmps119
    go_wp2
    go_ret
    exact ⟨rfl, B.out⟩
  · have e1 : fieldW nm tx n m 75 = Lib.decDigits n := rfl
    rw [e1]
    clear e1 J2
    generalize ByteArray.mk nm.toArray = X1 at *
    generalize ByteArray.mk tx.toArray = X2 at *
    generalize ByteArray.mk (Lib.decDigits n).toArray = X3 at *
    go_enter Tryz.func119, Tryz.ntmps119
    go_wp2_with (go_at_call 46; refine J1.out.mono ?_; rintro e w1 ⟨rfl, b1⟩; have B1 := hid (B.out.trans (b1.mono B.out.size)); clear b1)
    go_ret
    exact ⟨rfl, B1.out⟩
  · have e1 : fieldW nm tx n m 77 = Lib.decDigits m := rfl
    rw [e1]
    clear e1 J1
    generalize ByteArray.mk nm.toArray = X1 at *
    generalize ByteArray.mk tx.toArray = X2 at *
    generalize ByteArray.mk (Lib.decDigits m).toArray = X3 at *
    go_enter Tryz.func119, Tryz.ntmps119
    go_wp2_with (go_at_call 46; refine J2.out.mono ?_; rintro e w1 ⟨rfl, b1⟩; have B1 := hid (B.out.trans (b1.mono B.out.size)); clear b1)
    go_ret
    exact ⟨rfl, B1.out⟩
end Go.Proofs.YtfeppannfcbakaaGreatDoor

import Derived.Test.YtfeppannfcbakaaGreatDoorJ3
import Derived.Test.YtfeppannfcbakaaGreatDoorJ2
import Derived.Deep.RegionHeld3
import Derived.Lib.OthersKept
import Derived.WalkSmall
import Derived.Deep.QuietTactic
import Derived.BigQuiet
namespace Go.Proofs.YtfeppannfcbakaaGreatDoor
open Go.RowKit
set_option linter.unusedVariables false
set_option maxRecDepth 1000000
set_option maxHeartbeats 6400000
theorem rquoted_any {l : List UInt8} {o : Nat} {ws : Ws} {cs : List Comp} {w : World} (h : All cs w) (hl : l.length ≤ 8192) (ho : o < l.length) :
   Calls Tryz.prog 40 #[.string ⟨l.toArray⟩, .int .i64 (o : Int)] w (QPost (runW (.quote o []) ws (o + 1) (l.drop (o + 1))) l o ws cs) := by
 have hz : (⟨l.toArray⟩ : ByteArray).size = l.length := by simp [ByteArray.size]
 have IX : Hid (∀ k, k < l.length → ∀ W, (Instr.index 9 (.string ⟨l.toArray⟩) (.int .i64 (k : Int))).run Tryz.prog W = .ok (.int .u8 ((l.getD k 0).toNat : Int)) W) := fun k hk W => idx_at hk W
 have N := hid (All.addNil (e := 5) h)
 generalize hA : runW (.quote o []) ws (o + 1) (l.drop (o + 1)) = AN at *
 have HA := hid hA
 clear hA h
 generalize ByteArray.mk l.toArray = S at *
 generalize hn : l.length = n at *
 have HN := hid hn
 clear hn
 go_enter Tryz.func40, Tryz.ntmps40
 go_wp2
 go_loopw [7, 8] (fun ov iv wr => ∃ (i : Nat) (x : List UInt8) (ao : Option Addr) (c : Nat), i ≤ n ∧ o < i ∧ iv = .int .i64 (i : Int) ∧ ov = .slice ao x.length c ∧ x.length ≤ i ∧ Hid (All (ownC 5 (.slice ao x.length c) (cellsB x) :: cs) wr) ∧ Hid (AN = runW (.quote o x) ws i (l.drop i))) (fun _ iv _ => n - (intOf iv).toNat)
 case atStart => exact ⟨o + 1, [], none, 0, by omega, by omega, by go_num, rfl, by simp, N, hid HA.out.symm⟩
 case round =>
   obtain ⟨i, x, ao, c, hi, hoi, rfl, rfl, hx, hA, hrun⟩ := hrel
   by_cases hlt : i < n
   · have hlt' : (i : Int) < (n : Int) := by omega
     have ix := IX.out i hlt
     generalize hb : l.getD i 0 = b at ix
     have HB := hid hb
     clear hb
     by_cases h34 : b.toNat = 34
     · have bi : (b.toNat : Int) = 34 := by omega
       rw [bi] at ix
       have cv := conv_string (reads_own hA.out)
       have C := hid (risBare_any (l := x) (w := wr) (by omega))
       have D := hid hA.out.tail
       cases hw : isBareW x with
       | true =>
         have fin : Hid (AN = .byte o) := hid (by rw [hrun.out]; exact runW_bad (by rw [HN.out]; exact hlt) (by rw [HB.out]; simp [stepW, h34, hw]))
         clear h34 bi
         generalize ByteArray.mk x.toArray = X at *
         generalize x.length = nx at *
         go_wp2_with (go_at_call 77; refine C.out.mono ?_; rintro e w1 ⟨rfl, rfl⟩; rw [hw])
         go_ret3
         exact ⟨[], o, 161, rfl, D.out, Or.inr ⟨by omega, by rw [fin.out]; rfl, by rw [fin.out]; rfl, by rw [fin.out]; rfl⟩⟩
       | false =>
         have fin : Hid (AN = runW .closed (ws ++ [x]) (i + 1) (l.drop (i + 1))) := hid (by rw [hrun.out]; exact runW_go (by rw [HN.out]; exact hlt) (by rw [HB.out]; simp [stepW, h34, hw]))
         clear h34 bi
         generalize hX : ByteArray.mk x.toArray = X at *
         have HX := hid hX
         clear hX
         generalize x.length = nx at *
         go_wp2_with (go_at_call 77; refine C.out.mono ?_; rintro e w1 ⟨rfl, rfl⟩; rw [hw])
         go_ret3
         refine ⟨x, i + 1, 0, ?_, D.out, Or.inl ⟨rfl, by rw [HN.out]; omega, by omega, fin.out⟩⟩
         rw [HX.out]
         rfl
     · have n34 : ((b.toNat : Int) == 34) = false := by simp; omega
       by_cases hp : 32 ≤ b.toNat ∧ b.toNat ≤ 126
       · have p1 : ¬ (b.toNat : Int) < 32 := by omega
         have p2 : ¬ (126 : Int) < (b.toNat : Int) := by omega
         by_cases h92 : b.toNat = 92
         · have bi : (b.toNat : Int) = 92 := by omega
           rw [bi] at ix
           have hesc : Hid (AN = runW (.esc o x i) ws (i + 1) (l.drop (i + 1))) := hid (by rw [hrun.out]; exact runW_go (by rw [HN.out]; exact hlt) (by rw [HB.out]; simp [stepW, h92]))
           clear hrun h92 bi h34 n34 p1 p2 hp HB
           by_cases hlt1 : i + 1 < n
           · have hge1 : ¬ (n : Int) ≤ (i : Int) + 1 := by omega
             have ix1 := IX.out (i + 1) hlt1
             rw [show ((i + 1 : Nat) : Int) = (i : Int) + 1 from by omega] at ix1
             generalize hb1 : l.getD (i + 1) 0 = b1 at ix1
             have HB1 := hid hb1
             clear hb1
             by_cases hq : b1.toNat = 34 ∨ b1.toNat = 92
             · have e0 : b1.toNat ≠ 120 := by omega
               have nxt : Hid (AN = runW (.quote o (x ++ [b1])) ws (i + 2) (l.drop (i + 2))) := hid (by rw [hesc.out]; exact runW_go (by rw [HN.out]; exact hlt1) (by rw [HB1.out]; simp [stepW, e0, hq]))
               clear e0
               obtain ⟨ao1, c1, w1, hr, A1⟩ := app_byte hA.out b1 (by omega)
               have R := hid hr
               have A2 := hid A1
               have EL := hid (show (x ++ [b1]).length = x.length + 1 by simp)
               clear hr A1
               by_cases h34 : b1.toNat = 34
               · have bj : (b1.toNat : Int) = 34 := by omega
                 rw [bj] at ix1 R
                 clear h34 bj hq
                 generalize hnw : x.length = nw at *
                 clear hnw
                 go_wp2_with (at_builtin; refine wpList_append_run rfl _ _ 32 rfl _ _ _ _ rfl rfl R.out ?_)
                 go_roundw
                 case rel => exact ⟨i + 2, x ++ [b1], ao1, c1, by omega, by omega, by go_num, by rw [EL.out], by rw [EL.out]; omega, hid (by rw [EL.out]; exact A2.out), nxt⟩
                 case measure => simp [intOf]; omega
               · have bj : (b1.toNat : Int) = 92 := by omega
                 rw [bj] at ix1 R
                 clear h34 bj hq
                 generalize hnw : x.length = nw at *
                 clear hnw
                 go_wp2_with (at_builtin; refine wpList_append_run rfl _ _ 32 rfl _ _ _ _ rfl rfl R.out ?_)
                 go_roundw
                 case rel => exact ⟨i + 2, x ++ [b1], ao1, c1, by omega, by omega, by go_num, by rw [EL.out], by rw [EL.out]; omega, hid (by rw [EL.out]; exact A2.out), nxt⟩
                 case measure => simp [intOf]; omega
             · have n34 : ((b1.toNat : Int) == 34) = false := by simp; omega
               have n92 : ((b1.toNat : Int) == 92) = false := by simp; omega
               by_cases h120 : b1.toNat = 120
               · have bj : (b1.toNat : Int) = 120 := by omega
                 rw [bj] at ix1
                 have inn : Hid (Inn AN l o i x ws 0 0) := hid ⟨rfl, by rw [hesc.out]; exact runW_go (by rw [HN.out]; exact hlt1) (by rw [HB1.out]; simp [stepW, h120])⟩
                 clear hesc HB1 hq n34 n92 h120 bj
                 go_wp2
                 go_loopw [10, 11] (fun vv kv wr2 => ∃ (j v : Nat), j ≤ 2 ∧ i + 2 + j ≤ n ∧ kv = .int .i64 ((i : Int) + 2 + j) ∧ vv = .int .i64 (v : Int) ∧ v < 256 ∧ Hid (Inn AN l o i x ws j v) ∧ wr2 = wr) (fun _ kv _ => i + 4 - (intOf kv).toNat)
                 case atStart => exact ⟨0, 0, by omega, by omega, by go_num, rfl, by omega, inn, rfl⟩
                 case round =>
                   obtain ⟨j, v, hj, hjn, rfl, rfl, hv, hinn, rfl⟩ := hrel
                   clear inn ix ix1
                   by_cases hj2 : j < 2
                   · have hk4 : (i : Int) + 2 + j < (i : Int) + 4 := by omega
                     by_cases hlt2 : i + 2 + j < n
                     · have hgeF : ¬ (n : Int) ≤ (i : Int) + 2 + j := by omega
                       have ix2 := IX.out (i + 2 + j) hlt2
                       rw [show ((i + 2 + j : Nat) : Int) = (i : Int) + 2 + j from by omega] at ix2
                       have DG := hid (rdigit_any (l.getD (i + 2 + j) 0) wr)
                       cases hx2 : hexN (l.getD (i + 2 + j) 0).toNat with
                       | none =>
                         have fin : Hid (AN = .byte (i + 2 + j)) := hid (hinn.out.bad hj2 (by rw [HN.out]; exact hlt2) hx2)
                         have D := hid hA.out.tail
                         rw [hx2] at DG
                         clear hx2 hinn
                         generalize (l.getD (i + 2 + j) 0) = b2 at *
                         generalize (b2.toNat : Int) = bi2 at *
                         go_wp2_with (go_at_call 78; refine DG.out.mono ?_; rintro e w1 ⟨rfl, rfl⟩; simp only)
                         go_ret3
                         refine ⟨[], i + 2 + j, 161, ?_, D.out, Or.inr ⟨by omega, by rw [fin.out]; rfl, by rw [fin.out]; rfl, by rw [fin.out]; rfl⟩⟩
                         rw [show ((i + 2 + j : Nat) : Int) = (i : Int) + 2 + j from by omega]
                         rfl
                       | some d =>
                         have nin := hid (hinn.out.next hj2 (by rw [HN.out]; exact hlt2) hx2)
                         have hd := hexN_lt hx2
                         have hv2 := nin.out.small
                         rw [hx2] at DG
                         clear hx2 hinn
                         generalize (l.getD (i + 2 + j) 0) = b2 at *
                         generalize (b2.toNat : Int) = bi2 at *
                         go_wp2_with (go_at_call 78; refine DG.out.mono ?_; rintro e w1 ⟨rfl, rfl⟩; simp only)
                         go_roundw
                         case rel => exact ⟨j + 1, 16 * v + d, by omega, by omega, by go_num, by go_num, hv2, nin, trivial⟩
                         case measure => simp [intOf]; omega
                     · have hgeF : (n : Int) ≤ (i : Int) + 2 + j := by omega
                       have fin : Hid (AN = .stop n) := hid (by rw [hinn.out.stop hj2 (by rw [HN.out]; omega)]; congr 1; omega)
                       have D := hid hA.out.tail
                       clear hinn
                       go_wp2
                       go_ret3
                       exact ⟨[], n, 162, rfl, D.out, Or.inr ⟨by omega, by rw [fin.out]; rfl, by rw [fin.out]; rfl, by rw [fin.out]; rfl⟩⟩
                   · have hk4 : ¬ (i : Int) + 2 + j < (i : Int) + 4 := by omega
                     have ej : j = 2 := by omega
                     have hin2 : Hid (Inn AN l o i x ws 2 v) := hid (by rw [← ej]; exact hinn.out)
                     have hjn2 : i + 4 ≤ n := by omega
                     clear ej hinn hj hjn
                     by_cases hp : 32 ≤ v ∧ v ≤ 126
                     · have p1 : (32 : Int) ≤ v := by omega
                       have p2 : (v : Int) ≤ 126 := by omega
                       have fin : Hid (AN = .byte i) := hid (by rw [hin2.out.2.2, if_pos (by simp [prnN, hp])])
                       have D := hid hA.out.tail
                       clear hin2
                       go_wp2
                       go_ret3
                       exact ⟨[], i, 161, rfl, D.out, Or.inr ⟨by omega, by rw [fin.out]; rfl, by rw [fin.out]; rfl, by rw [fin.out]; rfl⟩⟩
                     · have nxt : Hid (AN = runW (.quote o (x ++ [UInt8.ofNat v])) ws (i + 4) (l.drop (i + 4))) := hid (by rw [hin2.out.2.2, if_neg (by simp [prnN]; omega)])
                       obtain ⟨ao1, c1, w1, hr, A1⟩ := app_byte hA.out (UInt8.ofNat v) (by omega)
                       rw [show (UInt8.ofNat v).toNat = v by simp; omega] at hr
                       have R := hid hr
                       have A2 := hid A1
                       have EL := hid (show (x ++ [UInt8.ofNat v]).length = x.length + 1 by simp)
                       have hw8 : IntKind.u8.wrap (v : Int) = v := by
                         have : ∀ a : Fin 256, IntKind.u8.wrap (a.val : Int) = a.val := by decide +kernel
                         exact this ⟨v, hv⟩
                       clear hr A1 hin2
                       generalize hnw : x.length = nw at *
                       clear hnw
                       by_cases p1 : (32 : Int) ≤ v
                       · have p2 : ¬ (v : Int) ≤ 126 := by omega
                         clear hp
                         go_wp2_with (at_builtin; refine wpList_append_run rfl _ _ 32 rfl _ _ _ _ rfl rfl R.out ?_)
                         go_roundw
                         case rel => exact ⟨i + 4, x ++ [UInt8.ofNat v], ao1, c1, by omega, by omega, by go_num, by rw [EL.out], by rw [EL.out]; omega, hid (by rw [EL.out]; exact A2.out), nxt⟩
                         case measure => simp [intOf]; omega
                       · clear hp
                         go_wp2_with (at_builtin; refine wpList_append_run rfl _ _ 32 rfl _ _ _ _ rfl rfl R.out ?_)
                         go_roundw
                         case rel => exact ⟨i + 4, x ++ [UInt8.ofNat v], ao1, c1, by omega, by omega, by go_num, by rw [EL.out], by rw [EL.out]; omega, hid (by rw [EL.out]; exact A2.out), nxt⟩
                         case measure => simp [intOf]; omega
               · have n120 : ((b1.toNat : Int) != 120) = true := by simp; omega
                 have fin : Hid (AN = .byte (i + 1)) := hid (by rw [hesc.out]; exact runW_bad (by rw [HN.out]; exact hlt1) (by rw [HB1.out]; simp [stepW, h120, hq]))
                 have D := hid hA.out.tail
                 clear hq h120 hesc
                 go_wp2
                 go_ret3
                 exact ⟨[], i + 1, 161, rfl, D.out, Or.inr ⟨by omega, by rw [fin.out]; rfl, by rw [fin.out]; rfl, by rw [fin.out]; rfl⟩⟩
           · have hge1 : (n : Int) ≤ (i : Int) + 1 := by omega
             have fin : Hid (AN = .stop n) := hid (by rw [hesc.out, runW_end (by rw [HN.out]; omega)]; simp only [finW]; congr 1; omega)
             have D := hid hA.out.tail
             clear hesc
             go_wp2
             go_ret3
             exact ⟨[], n, 162, rfl, D.out, Or.inr ⟨by omega, by rw [fin.out]; rfl, by rw [fin.out]; rfl, by rw [fin.out]; rfl⟩⟩
         · have n92 : ((b.toNat : Int) != 92) = true := by simp; omega
           have nx : Hid (AN = runW (.quote o (x ++ [b])) ws (i + 1) (l.drop (i + 1))) := hid (by rw [hrun.out]; exact runW_go (by rw [HN.out]; exact hlt) (by rw [HB.out]; simp [stepW, h34, h92, prnN, hp]))
           obtain ⟨ao1, c1, w1, hr, A1⟩ := app_byte hA.out b (by omega)
           have R := hid hr
           have A2 := hid A1
           have el : (x ++ [b]).length = x.length + 1 := by simp
           have EL := hid el
           clear hr A1 h34 h92 hp el
           generalize (b.toNat : Int) = bi at *
           generalize hnw : x.length = nw at *
           clear hnw
           go_wp2_with (at_builtin; refine wpList_append_run rfl _ _ 32 rfl _ _ _ _ rfl rfl R.out ?_)
           go_roundw
           case rel => exact ⟨i + 1, x ++ [b], ao1, c1, by omega, by omega, by go_num, by rw [EL.out], by rw [EL.out]; omega, hid (by rw [EL.out]; exact A2.out), nx⟩
           case measure => simp [intOf]; omega
       · have e9 : b.toNat ≠ 92 := by omega
         have fin : Hid (AN = .byte i) := hid (by rw [hrun.out]; exact runW_bad (by rw [HN.out]; exact hlt) (by rw [HB.out]; simp [stepW, h34, e9, prnN, hp]))
         clear e9
         have D := hid hA.out.tail
         by_cases p1 : (b.toNat : Int) < 32
         · clear h34 hp
           go_wp2
           go_ret3
           exact ⟨[], i, 161, rfl, D.out, Or.inr ⟨by omega, by rw [fin.out]; rfl, by rw [fin.out]; rfl, by rw [fin.out]; rfl⟩⟩
         · have p2 : (126 : Int) < (b.toNat : Int) := by omega
           clear h34 hp
           go_wp2
           go_ret3
           exact ⟨[], i, 161, rfl, D.out, Or.inr ⟨by omega, by rw [fin.out]; rfl, by rw [fin.out]; rfl, by rw [fin.out]; rfl⟩⟩
   · have hlt' : ¬ (i : Int) < (n : Int) := by omega
     have hge : (n : Int) ≤ (i : Int) := by omega
     have fin : Hid (AN = .stop n) := hid (by rw [hrun.out, runW_end (by rw [HN.out]; omega)]; simp only [finW]; congr 1; omega)
     have D := hid hA.out.tail
     go_wp2
     go_ret3
     exact ⟨[], n, 162, rfl, D.out, Or.inr ⟨by omega, by rw [fin.out]; rfl, by rw [fin.out]; rfl, by rw [fin.out]; rfl⟩⟩
set_option linter.unusedVariables false
set_option maxRecDepth 1000000
set_option maxHeartbeats 6400000
def cutW (l : List UInt8) (i j : Nat) : List UInt8 := (l.drop i).take (j - i)
theorem cutW_snoc {l : List UInt8} {i j : Nat} (hi : i ≤ j) (hj : j < l.length) : cutW l i (j + 1) = cutW l i j ++ [l.getD j 0] := by
 unfold cutW
 rw [show j + 1 - i = (j - i) + 1 by omega, List.take_add_one]
 congr 1
 rw [List.getElem?_drop, show i + (j - i) = j by omega, List.getElem?_eq_getElem hj]
 simp [List.getD, hj]
theorem cutW_one {l : List UInt8} {i : Nat} (hj : i < l.length) : cutW l i (i + 1) = [l.getD i 0] := by
 rw [cutW_snoc (Nat.le_refl _) hj]
 simp [cutW]
theorem cut_run {l : List UInt8} {i j : Nat} (hi : i ≤ j) (hj : j ≤ l.length) (W : World) : (Instr.slice 9 (.string ⟨l.toArray⟩) (some (.int .i64 (i : Int))) (some (.int .i64 (j : Int))) none).run Tryz.prog W = .ok (.string ⟨(cutW l i j).toArray⟩) W := by
 have hs : (⟨l.toArray⟩ : ByteArray).size = l.length := by simp [ByteArray.size]
 rw [run_slice_string W 9 _ _ _ _ _ Tryz.underlying9 (by omega) (by omega) (by rw [hs]; omega)]
 congr 2
 apply ByteArray.ext
 simp only [ByteArray.data_extract, Int.toNat_natCast]
 apply Array.ext'
 simp [cutW, List.extract_eq_take_drop]
def Bar (AN : Ans) (l : List UInt8) (ws : Ws) (i j : Nat) : Prop :=
 (j = i ∧ AN = runW .ahead ws i (l.drop i)) ∨ (i < j ∧ AN = runW (.bare (cutW l i j)) ws j (l.drop j))
theorem Bar.next {AN : Ans} {l : List UInt8} {ws : Ws} {i j : Nat} (h : Bar AN l ws i j) (hj : j < l.length) (hb : bareN (l.getD j 0).toNat = true) : Bar AN l ws i (j + 1) := by
 have b32 : (l.getD j 0).toNat ≠ 32 := by intro e; rw [e] at hb; simp [bareN] at hb
 have b34 : (l.getD j 0).toNat ≠ 34 := by intro e; rw [e] at hb; simp [bareN] at hb
 rcases h with ⟨rfl, h⟩ | ⟨hi, h⟩
 · refine Or.inr ⟨by omega, ?_⟩
   rw [h, runW_go hj (s' := .bare [l.getD j 0]) (ws' := ws) (by simp only [stepW]; rw [if_neg b32, if_neg b34, if_pos hb]), cutW_one hj]
 · refine Or.inr ⟨by omega, ?_⟩
   rw [h, runW_go hj (s' := .bare (cutW l i j ++ [l.getD j 0])) (ws' := ws) (by simp only [stepW]; rw [if_pos hb]), cutW_snoc (by omega) hj]
theorem behind {l : List UInt8} {ws : Ws} {k : Nat} (h : l.length ≤ k ∨ (l.getD k 0).toNat = 32) : runW .closed ws k (l.drop k) = runW .ahead ws k (l.drop k) := by
 by_cases hk : k < l.length
 · have h32 : (l.getD k 0).toNat = 32 := by rcases h with h | h <;> omega
   rw [runW_go hk (s' := .ahead) (ws' := ws) (by simp only [stepW]; rw [if_pos h32]), runW_go hk (s' := .ahead) (ws' := ws) (by simp only [stepW]; rw [if_pos h32])]
 · rw [runW_end (by omega), runW_end (by omega)]; rfl
theorem behind_bare {l : List UInt8} {ws : Ws} {x : List UInt8} {k : Nat} (h : l.length ≤ k ∨ (l.getD k 0).toNat = 32) : runW (.bare x) ws k (l.drop k) = runW .ahead (ws ++ [x]) k (l.drop k) := by
 by_cases hk : k < l.length
 · have h32 : (l.getD k 0).toNat = 32 := by rcases h with h | h <;> omega
   rw [runW_go hk (s' := .ahead) (ws' := ws ++ [x]) (by simp only [stepW]; rw [h32]; rfl), runW_go hk (s' := .ahead) (ws' := ws ++ [x]) (by simp only [stepW]; rw [if_pos h32])]
 · rw [runW_end (by omega), runW_end (by omega)]; rfl
theorem rSplit_long {l : List UInt8} {cs : List Comp} {w : World} (h : All cs w) (hl : 8192 < l.length) (hl2 : l.length ≤ 140737488355328) :
   Calls Tryz.prog 17 #[.string ⟨l.toArray⟩] w (SplitPost .long cs) := by
 have hz : (⟨l.toArray⟩ : ByteArray).size = l.length := by simp [ByteArray.size]
 have A := hid (All.addNil (e := 9) h)
 clear h
 generalize ByteArray.mk l.toArray = S at *
 generalize l.length = n at *
 have hl' : (8192 : Int) < n := by omega
 go_enter Tryz.func17, Tryz.ntmps17
 go_wp2
 go_ret3
 exact ⟨_, rfl, A.out⟩
theorem rSplit_short {l : List UInt8} {cs : List Comp} {w : World} (h : All cs w) (hl : l.length ≤ 8192) :
   Calls Tryz.prog 17 #[.string ⟨l.toArray⟩] w (SplitPost (runW .ahead [] 0 l) cs) := by
 have hz : (⟨l.toArray⟩ : ByteArray).size = l.length := by simp [ByteArray.size]
 have IX : Hid (∀ k, k < l.length → ∀ W, (Instr.index 9 (.string ⟨l.toArray⟩) (.int .i64 (k : Int))).run Tryz.prog W = .ok (.int .u8 ((l.getD k 0).toNat : Int)) W) := fun k hk W => idx_at hk W
 have CR : Hid (∀ i j : Nat, i ≤ j → j ≤ l.length → ∀ W, (Instr.slice 9 (.string ⟨l.toArray⟩) (some (.int .i64 (i : Int))) (some (.int .i64 (j : Int))) none).run Tryz.prog W = .ok (.string ⟨(cutW l i j).toArray⟩) W) := fun i j hi hj W => cut_run hi hj W
 have RQ : Hid (∀ (o : Nat) (ws : Ws) (ds : List Comp) (W : World), All ds W → o < l.length → Calls Tryz.prog 40 #[.string ⟨l.toArray⟩, .int .i64 (o : Int)] W (QPost (runW (.quote o []) ws (o + 1) (l.drop (o + 1))) l o ws ds)) := hid (fun o ws ds W hW ho => rquoted_any hW hl ho)
 have N := hid (All.addNil (e := 9) h)
 have R0 : Hid (runW .ahead [] 0 l = runW .ahead [] 0 (l.drop 0)) := hid (by simp)
 generalize hA : runW .ahead [] 0 l = AN at *
 clear hA h
 generalize ByteArray.mk l.toArray = S at *
 generalize hn : l.length = n at *
 have HN := hid hn
 clear hn
 have hl' : ¬ (8192 : Int) < n := by omega
 go_enter Tryz.func17, Tryz.ntmps17
 go_wp2
 go_loopw [5, 6] (fun ov iv wr => ∃ (i : Nat) (ws : Ws) (ao : Option Addr) (c : Nat), i ≤ n ∧ iv = .int .i64 (i : Int) ∧ ov = .slice ao ws.length c ∧ ws.length ≤ i ∧ Hid (All (ownC 9 (.slice ao ws.length c) (txW ws) :: cs) wr) ∧ Hid (AN = runW .ahead ws i (l.drop i))) (fun _ iv _ => n - (intOf iv).toNat)
 case atStart => exact ⟨0, [], none, 0, by omega, rfl, rfl, by simp, N, R0⟩
 case round =>
   obtain ⟨i, ws, ao, c, hi, rfl, rfl, hws, hA, hrun⟩ := hrel
   clear N R0
   by_cases hlt : i < n
   · have hlt' : (i : Int) < (n : Int) := by omega
     have ix := IX.out i hlt
     generalize hb : l.getD i 0 = b at ix
     have HB := hid hb
     clear hb
     by_cases h32 : b.toNat = 32
     · have bi : (b.toNat : Int) = 32 := by omega
       rw [bi] at ix
       have nx : Hid (AN = runW .ahead ws (i + 1) (l.drop (i + 1))) := hid (by rw [hrun.out]; exact runW_go (by rw [HN.out]; exact hlt) (by rw [HB.out]; simp [stepW, h32]))
       clear h32 bi
       generalize hnw : ws.length = nw at *
       have HNW := hid hnw
       clear hnw
       go_wp2
       go_roundw
       case rel => exact ⟨i + 1, ws, ao, c, by omega, by go_num, by rw [HNW.out], by rw [HNW.out]; omega, hid (by rw [HNW.out]; exact hA.out), nx⟩
       case measure => simp [intOf]; omega
     · have n32 : ((b.toNat : Int) == 32) = false := by simp; omega
       by_cases h34 : b.toNat = 34
       · have bi : (b.toNat : Int) = 34 := by omega
         rw [bi] at ix
         have C := hid (RQ.out i ws _ wr hA.out hlt)
         have e1 : Hid (AN = runW (.quote i []) ws (i + 1) (l.drop (i + 1))) := hid (by rw [hrun.out]; exact runW_go (by rw [HN.out]; exact hlt) (by rw [HB.out]; simp [stepW, h34]))
         rw [← e1.out] at C
         clear e1 hrun h32 h34 n32 bi
         generalize hnw : ws.length = nw at *
         have HNW := hid hnw
         clear hnw
         go_wp2_with (go_at_call 40; refine C.out.mono ?_; rintro e w1 ⟨x, k, er, rfl, A1, hc⟩; refine Hid.out ?_)
         refine hid ?_
         clear C hA
         rcases hc with ⟨rfl, hkn, hik, hAN⟩ | ⟨her, h1, h2, h3⟩
         · rw [HN.out] at hkn
           have HAN := hid hAN
           obtain ⟨ao1, c1, w2, hr, A2⟩ := app_txt (l := ws) A1 x (by rw [HNW.out]; omega)
           rw [HNW.out] at hr A2
           have R := hid hr
           have A3 := hid A2
           have EL := hid (show (ws ++ [x]).length = nw + 1 by rw [List.length_append, HNW.out]; rfl)
           clear hr A2 A1 hAN
           generalize hX : ByteArray.mk x.toArray = X at *
           clear hX
           by_cases hk : k < n
           · have hk' : (k : Int) < (n : Int) := by omega
             have ixk := IX.out k hk
             generalize hbk : l.getD k 0 = bk at ixk
             have HBK := hid hbk
             clear hbk
             by_cases hk32 : bk.toNat = 32
             · have bki : (bk.toNat : Int) = 32 := by omega
               rw [bki] at ixk
               have nxt : Hid (AN = runW .ahead (ws ++ [x]) k (l.drop k)) := hid (by rw [HAN.out]; exact behind (Or.inr (by rw [HBK.out]; exact hk32)))
               clear hk32 bki
               go_wp2_with (at_builtin; refine wpList_append_run rfl _ _ 27 rfl _ _ _ _ rfl rfl R.out ?_)
               go_roundw
               case rel => exact ⟨k, ws ++ [x], ao1, c1, by omega, rfl, by rw [EL.out], by rw [EL.out]; omega, hid (by rw [EL.out]; exact A3.out), nxt⟩
               case measure => simp [intOf]; omega
             · have bki : ((bk.toNat : Int) != 32) = true := by simp; omega
               have fin : Hid (AN = .byte k) := hid (by rw [HAN.out]; exact runW_bad (by rw [HN.out]; exact hk) (by rw [HBK.out]; simp [stepW, hk32]))
               have D := hid (All.addNil (e := 9) A3.out.tail)
               clear hk32
               go_wp2_with (at_builtin; refine wpList_append_run rfl _ _ 27 rfl _ _ _ _ rfl rfl R.out ?_)
               go_ret3
               exact ⟨_, by rw [fin.out]; rfl, by rw [fin.out]; exact D.out⟩
           · have hk' : ¬ (k : Int) < (n : Int) := by omega
             have nxt : Hid (AN = runW .ahead (ws ++ [x]) k (l.drop k)) := hid (by rw [HAN.out]; exact behind (Or.inl (by rw [HN.out]; omega)))
             go_wp2_with (at_builtin; refine wpList_append_run rfl _ _ 27 rfl _ _ _ _ rfl rfl R.out ?_)
             go_roundw
             case rel => exact ⟨k, ws ++ [x], ao1, c1, by omega, rfl, by rw [EL.out], by rw [EL.out]; omega, hid (by rw [EL.out]; exact A3.out), nxt⟩
             case measure => simp [intOf]; omega
         · have hne : ((er : Int) != 0) = true := by simp; omega
           have D := hid (All.addNil (e := 9) A1.tail)
           have H1 := hid h1
           have H2 := hid h2
           have H3 := hid h3
           clear h1 h2 h3 her A1
           go_wp2
           go_ret3
           exact ⟨_, by rw [H1.out, H2.out]; rfl, by rw [H3.out]; exact D.out⟩
       · have n34 : ((b.toNat : Int) == 34) = false := by simp; omega
         have inn : Hid (Bar AN l ws i i) := hid (Or.inl ⟨rfl, hrun.out⟩)
         have fin0 : Hid (bareN b.toNat = false → AN = .byte i) := hid (fun hx => by rw [hrun.out]; exact runW_bad (by rw [HN.out]; exact hlt) (by rw [HB.out]; simp only [stepW]; rw [if_neg h32, if_neg h34, if_neg (by rw [hx]; simp)]))
         clear hrun h34
         generalize hnw : ws.length = nw at *
         have HNW := hid hnw
         clear hnw
         go_wp2
         go_loopw [6] (fun jv wr2 => ∃ j : Nat, i ≤ j ∧ j ≤ n ∧ jv = .int .i64 (j : Int) ∧ Hid (Bar AN l ws i j) ∧ wr2 = wr) (fun jv _ => n - (intOf jv).toNat)
         case atStart => exact ⟨i, Nat.le_refl _, hi, rfl, inn, rfl⟩
         case round =>
           obtain ⟨j, hij, hjn, rfl, hbar, rfl⟩ := hrel
           clear inn ix n32 n34
           by_cases hjl : j < n
           · have hj' : (j : Int) < (n : Int) := by omega
             have ixj := IX.out j hjl
             have BC := hid (rbare_any (l.getD j 0) wr)
             cases hx : bareN (l.getD j 0).toNat with
             | true =>
               have nb := hid (hbar.out.next (by rw [HN.out]; exact hjl) hx)
               generalize hbj : l.getD j 0 = bj at *
               clear hbj
               generalize (bj.toNat : Int) = bi at *
               go_wp2_with (go_at_call 41; refine BC.out.mono ?_; rintro e w1 ⟨rfl, rfl⟩; rw [hx])
               go_roundw
               case rel => exact ⟨j + 1, by omega, by omega, by go_num, nb, trivial⟩
               case measure => simp [intOf]; omega
             | false =>
               by_cases hji : i < j
               · have hji' : (i : Int) < (j : Int) := by omega
                 have hAN : Hid (AN = runW (.bare (cutW l i j)) ws j (l.drop j)) := hid (by
                   rcases hbar.out with ⟨e, _⟩ | ⟨_, h⟩
                   · omega
                   · exact h)
                 have cr := CR.out i j hij hjn
                 obtain ⟨ao1, c1, w2, hr, A2⟩ := app_txt (l := ws) hA.out (cutW l i j) (by rw [HNW.out]; omega)
                 rw [HNW.out] at hr A2
                 have R := hid hr
                 have A3 := hid A2
                 have EL := hid (show (ws ++ [cutW l i j]).length = nw + 1 by rw [List.length_append, HNW.out]; rfl)
                 clear hr A2
                 by_cases hk32 : (l.getD j 0).toNat = 32
                 · have nxt : Hid (AN = runW .ahead (ws ++ [cutW l i j]) j (l.drop j)) := hid (by rw [hAN.out]; exact behind_bare (Or.inr hk32))
                   have bji : ((l.getD j 0).toNat : Int) = 32 := by omega
                   rw [bji] at ixj BC
                   generalize hX : ByteArray.mk (cutW l i j).toArray = X at *
                   generalize hbj : l.getD j 0 = bj at *
                   clear hX hbj bji hk32
                   go_wp2_with (first | (go_at_call 41; refine BC.out.mono ?_; rintro e w1 ⟨rfl, rfl⟩; rw [hx]) | (at_builtin; refine wpList_append_run rfl _ _ 27 rfl _ _ _ _ rfl rfl R.out ?_))
                   go_roundw
                   case rel => exact ⟨j, ws ++ [cutW l i j], ao1, c1, by omega, rfl, by rw [EL.out], by rw [EL.out]; omega, hid (by rw [EL.out]; exact A3.out), nxt⟩
                   case measure => simp [intOf]; omega
                 · have fin : Hid (AN = .byte j) := hid (by rw [hAN.out]; exact runW_bad (by rw [HN.out]; exact hjl) (by simp only [stepW]; rw [hx, if_neg (by simp), if_neg hk32]))
                   have bki : (((l.getD j 0).toNat : Int) != 32) = true := by simp only [bne_iff_ne, ne_eq]; omega
                   have D := hid (All.addNil (e := 9) A3.out.tail)
                   generalize hX : ByteArray.mk (cutW l i j).toArray = X at *
                   generalize hbj : l.getD j 0 = bj at *
                   clear hX hbj hk32
                   go_wp2_with (first | (go_at_call 41; refine BC.out.mono ?_; rintro e w1 ⟨rfl, rfl⟩; rw [hx]) | (at_builtin; refine wpList_append_run rfl _ _ 27 rfl _ _ _ _ rfl rfl R.out ?_))
                   go_ret3
                   exact ⟨_, by rw [fin.out]; rfl, by rw [fin.out]; exact D.out⟩
               · have ej : j = i := by omega
                 have fin : Hid (AN = .byte j) := hid (by rw [ej] at hx ⊢; rw [HB.out] at hx; exact fin0.out hx)
                 have hji' : ¬ (i : Int) < (j : Int) := by omega
                 have hne : (l.getD j 0).toNat ≠ 32 := by rw [ej, HB.out]; exact h32
                 have bki : (((l.getD j 0).toNat : Int) != 32) = true := by simp only [bne_iff_ne, ne_eq]; omega
                 have D := hid (All.addNil (e := 9) hA.out.tail)
                 generalize hbj : l.getD j 0 = bj at *
                 clear hbj hne ej fin0
                 go_wp2_with (go_at_call 41; refine BC.out.mono ?_; rintro e w1 ⟨rfl, rfl⟩; rw [hx])
                 go_ret3
                 exact ⟨_, by rw [fin.out]; rfl, by rw [fin.out]; exact D.out⟩
           · have hj' : ¬ (j : Int) < (n : Int) := by omega
             have hji' : (i : Int) < (j : Int) := by omega
             have hAN : Hid (AN = runW (.bare (cutW l i j)) ws j (l.drop j)) := hid (by
               rcases hbar.out with ⟨e, _⟩ | ⟨_, h⟩
               · omega
               · exact h)
             have cr := CR.out i j hij hjn
             obtain ⟨ao1, c1, w2, hr, A2⟩ := app_txt (l := ws) hA.out (cutW l i j) (by rw [HNW.out]; omega)
             rw [HNW.out] at hr A2
             have R := hid hr
             have A3 := hid A2
             have EL := hid (show (ws ++ [cutW l i j]).length = nw + 1 by rw [List.length_append, HNW.out]; rfl)
             have nxt : Hid (AN = runW .ahead (ws ++ [cutW l i j]) j (l.drop j)) := hid (by rw [hAN.out]; exact behind_bare (Or.inl (by rw [HN.out]; omega)))
             clear hr A2
             generalize hX : ByteArray.mk (cutW l i j).toArray = X at *
             clear hX
             go_wp2_with (at_builtin; refine wpList_append_run rfl _ _ 27 rfl _ _ _ _ rfl rfl R.out ?_)
             go_roundw
             case rel => exact ⟨j, ws ++ [cutW l i j], ao1, c1, by omega, rfl, by rw [EL.out], by rw [EL.out]; omega, hid (by rw [EL.out]; exact A3.out), nxt⟩
             case measure => simp [intOf]; omega
   · have hlt' : ¬ (i : Int) < (n : Int) := by omega
     have fin : Hid (AN = .ok ws) := hid (by rw [hrun.out, runW_end (by rw [HN.out]; omega)]; rfl)
     go_wp2
     go_ret3
     exact ⟨_, by rw [fin.out]; rfl, by rw [fin.out]; exact hA.out⟩
set_option linter.unusedVariables false
theorem Split_any {l : List UInt8} {cs : List Comp} {w : World} (h : All cs w) (hl : l.length ≤ 140737488355328) : Calls Tryz.prog 35 #[.string ⟨l.toArray⟩] w (SplitPost (splitW l) cs) := by
 unfold splitW
 by_cases h8 : 8192 < l.length
 · rw [if_pos h8]; exact Split_long h h8 hl
 · rw [if_neg h8]; exact Split_short h (by omega)
theorem rSplit_any {l : List UInt8} {cs : List Comp} {w : World} (h : All cs w) (hl : l.length ≤ 140737488355328) : Calls Tryz.prog 17 #[.string ⟨l.toArray⟩] w (SplitPost (splitW l) cs) := by
 unfold splitW
 by_cases h8 : 8192 < l.length
 · rw [if_pos h8]; exact rSplit_long h h8 hl
 · rw [if_neg h8]; exact rSplit_short h (by omega)
theorem finW_size (s : St) (ws : Ws) (k : Nat) : (finW s ws k).ws.length ≤ s.held + wsz ws := by
 cases s <;> simp [finW, Ans.ws, St.held, wsz] <;> omega
theorem runW_size : ∀ (t : List UInt8) (s : St) (ws : Ws) (k : Nat), (runW s ws k t).ws.length ≤ s.held + wsz ws + 2 * t.length
 | [], s, ws, k => by rw [runW]; exact Nat.le_trans (finW_size s ws k) (by simp)
 | b :: t, s, ws, k => by
   rw [runW]
   cases hs : stepW s ws k b with
   | go s' ws' =>
     simp only
     have h1 := runW_size t s' ws' (k + 1)
     have h2 := stepW_held hs
     simp only [List.length_cons]
     omega
   | bad j => simp [Ans.ws]
theorem splitW_size (l : List UInt8) : (splitW l).ws.length ≤ 16384 := by
 unfold splitW
 by_cases h8 : 8192 < l.length
 · rw [if_pos h8]; simp [Ans.ws]
 · rw [if_neg h8]
   have := runW_size l .ahead [] 0
   simp only [St.held, wsz, List.length_nil, List.map_nil, List.sum_nil] at this
   omega
set_option linter.unusedVariables false
set_option maxRecDepth 1000000
def findW (x : List UInt8) : Nat → Ws → Option Nat
 | _, [] => none
 | k, y :: r => if y = x then some k else findW x (k + 1) r
theorem findW_at {x : List UInt8} {k : Nat} {l : Ws} (hk : k < l.length) : findW x k (l.drop k) = if l.getD k [] = x then some k else findW x (k + 1) (l.drop (k + 1)) := by
 rw [List.drop_eq_getElem_cons hk, findW]
 simp [List.getD, hk]
def idxI (o : Option Nat) : Int := match o with | none => -1 | some k => (k : Int)
theorem appR {W : World} {v v2 : Value} {l l2 : Ws} {cs : List Comp} (A : All (ownC 9 v (txW l) :: cs) W) (h2 : Rt W v2 l2) (hl : (l.length + l2.length) * 16 ≤ 140737488355328) :
   ∃ ao c w', (Builtin.append_ #[27, 27] 27 #[v, v2]).run Tryz.prog W = .ok (.slice ao (l.length + l2.length) c) w' ∧ All (ownC 9 (.slice ao (l.length + l2.length) c) (txW (l ++ l2)) :: cs) w' := by
 obtain ⟨i1, hi1, hz0, hz1, hz2⟩ := info_parts Tryz.info9
 obtain ⟨ao2, c2, rfl, hc2, hx⟩ := h2
 have hown : W.ownsRow 0 9 1 v (txW l).length (txW l) := A.1.2.1
 obtain ⟨ao, c, rfl⟩ := owns_form hown
 have e1 : txW (l ++ l2) = txW l ++ txW l2 := by simp [txW]
 rcases hx with rfl | ⟨g, o, rfl, hg, hcell⟩
 · refine ⟨ao, c, W, ?_, ?_⟩
   · have := run_append_nothing W 27 27 27 9 i1 Tryz.underlying27 hi1 ao (txW l).length c (owns_len hown).2 (.slice ao2 0 c2) (srcNil Tryz.underlying27 ao2 c2)
     simpa [txW_length] using this
   · rw [txW_length] at A
     simpa using A
 · have k1 : (txW l).length + l2.length ≤ maxLen := by rw [txW_length]; unfold maxLen; omega
   have k2 : ((txW l).length + l2.length) * 16 ≤ 140737488355328 := by rw [txW_length]; omega
   have k3 : (txW l2).length = l2.length * 1 := by rw [txW_length]; omega
   have k4 : ∀ u ∈ txW l2, u.oneCell' = true := fun u hu => by
     obtain ⟨y, _, rfl⟩ := List.mem_map.1 hu
     rfl
   obtain ⟨v', w', hr, h2, h3, h4, h5⟩ := run_append_own_at (P := Tryz.prog) W 0 27 27 9 i1 (.string ⟨#[]⟩) 1 16 Tryz.underlying27 hi1 hz0 hz1 hz2 rfl (by decide) (.slice ao (txW l).length c) (txW l).length (txW l) hown ⟨g, o, none⟩ l2.length c2 (txW l2) k3
     (fun j u hu => by
       have hj : j < l2.length := by rw [← txW_length]; exact (List.getElem?_eq_some_iff.1 hu).1
       rw [Addr.add_lit, hcell j hj, ← hu]
       simp [txW, hj]) k4 k1 k2 (Nat.zero_le _)
   obtain ⟨ao', c', rfl⟩ := owns_form h2
   have el : (txW l).length + l2.length = l.length + l2.length := by rw [txW_length]
   rw [el] at hr h2 h5
   refine ⟨ao', c', w', hr, A.ownGrow (vs' := txW (l ++ l2)) (base := 0) ?_ h3 h5⟩
   rw [e1, List.length_append, txW_length, txW_length]
   exact h2
theorem own_new {W : World} {cs : List Comp} (A : All cs W) (m : Ws) (hm : m.length ≤ 1000) : All (ownC 9 (.slice (some ⟨W.heap.size, 0, none⟩) m.length m.length) (txW m) :: cs) (W.alloc (.cells (txW m).toArray 9)) := by
 refine A.addOwn (ba W _) ⟨by simp, Or.inr ⟨W.heap.size, m.length, (txW m).toArray, by rw [txW_length], Nat.le_refl _, heap_alloc_new W _, by rw [txW_length]; omega, by unfold maxLen; omega, by simp [txW_length], by simp⟩⟩
theorem row_any {x : List UInt8} {v : Value} {l : Ws} {cs : List Comp} {w : World} (A : All cs w) (h : Rt w v l) (hl : (1 + l.length) * 16 ≤ 140737488355328) :
   Calls Tryz.prog 120 #[.string ⟨x.toArray⟩, v] w fun e w' => ∃ ao c, e = .returned (.slice ao (1 + l.length) c) ∧ All (ownC 9 (.slice ao (1 + l.length) c) (txW (x :: l)) :: cs) w' := by
 obtain ⟨ao, c, w', hr, A2⟩ := appR (own_new A [x] (by simp)) (h.later (ba w _)) (by simpa using hl)
 obtain ⟨ao0, c0, rfl⟩ := h.form
 have R : Hid ((Builtin.append_ #[27, 27] 27 #[.slice (some ⟨w.heap.size, 0, none⟩) 1 1, .slice ao0 l.length c0]).run Tryz.prog (w.alloc (.cells #[.string ⟨x.toArray⟩] 9)) = .ok (.slice ao (1 + l.length) c) w') := hid hr
 have B := hid A2
 clear hr A2 A h hl
 generalize hn : l.length = n at *
 clear hn
 generalize ByteArray.mk x.toArray = X at *
 go_enter Tryz.func120, Tryz.ntmps120
 go_wp2_with (at_builtin; refine wpList_append_run rfl _ _ 27 rfl _ _ _ _ rfl rfl R.out ?_)
 go_ret
 exact ⟨ao, c, rfl, B.out⟩
set_option linter.unusedVariables false
set_option maxRecDepth 1000000
theorem cut_rt {w : World} {ao : Option Addr} {n c : Nat} {l : Ws} (h : Rt w (.slice ao n c) l) {lo hi : Nat} (h1 : lo ≤ hi) (h2 : hi ≤ l.length) : Rt w (sliced ao lo hi c 1) ((l.drop lo).take (hi - lo)) := by
 obtain ⟨ao', c', e, hc, hx⟩ := h
 simp only [Value.slice.injEq] at e
 obtain ⟨rfl, rfl, rfl⟩ := e
 have hl : ((l.drop lo).take (hi - lo)).length = hi - lo := by simp; omega
 refine ⟨_, _, by rw [hl]; rfl, by omega, ?_⟩
 by_cases h0 : lo = hi
 · left; subst h0; simp
 · right
   rcases hx with rfl | ⟨g, o, rfl, hg, hcell⟩
   · simp at h2; omega
   · have hne : c ≠ lo := by omega
     refine ⟨g, o + lo, by rw [if_neg hne]; simp [Addr.add_lit], hg, fun j hj => ?_⟩
     have hj' : lo + j < l.length := by rw [hl] at hj; omega
     have := hcell (lo + j) hj'
     rw [Nat.add_assoc, this]
     simp
theorem Tryz.elem28 (W : World) : (sizeOf (Tryz.prog.elem 27)).run Tryz.prog W = .ok 1 W := by kernel_rfl
theorem cut_l {w : World} {ao : Option Addr} {c : Nat} {l : Ws} (h : Rt w (.slice ao l.length c) l) {a : Nat} (ha : a ≤ l.length) {x : Int} (hx : x = (a : Int)) : ∃ ao' c', (∀ W, (Instr.slice 27 (.slice ao l.length c) (some (.int .i64 x)) none none).run Tryz.prog W = .ok (.slice ao' (l.length - a) c') W) ∧ Rt w (.slice ao' (l.length - a) c') (l.drop a) := by
 have hr := cut_rt h (lo := a) (hi := l.length) ha (Nat.le_refl _)
 rw [List.take_of_length_le (by simp)] at hr
 refine ⟨_, _, fun W => ?_, hr⟩
 rw [run_slice_l W 27 ao l.length c Tryz.underlying27 .i64 x (by omega) (by omega), Tryz.elem28, hx, Int.toNat_natCast]
 rfl
theorem cut_h {w : World} {ao : Option Addr} {n c : Nat} {l : Ws} (h : Rt w (.slice ao n c) l) {b : Nat} (hb : b ≤ l.length) {x : Int} (hx : x = (b : Int)) : ∃ ao' c', (∀ W, (Instr.slice 27 (.slice ao n c) none (some (.int .i64 x)) none).run Tryz.prog W = .ok (.slice ao' b c') W) ∧ Rt w (.slice ao' b c') (l.take b) := by
 have hc : l.length ≤ c := by obtain ⟨_, _, e, hc, _⟩ := h; simp only [Value.slice.injEq] at e; omega
 have hr := cut_rt h (lo := 0) (hi := b) (by omega) hb
 rw [List.drop_zero, Nat.sub_zero] at hr
 have e0 : sliced ao 0 b c 1 = .slice (if c = 0 then ao else ao.map (·.add (0 * 1))) b c := rfl
 rw [e0] at hr
 refine ⟨_, _, fun W => ?_, hr⟩
 rw [run_slice_h W 27 ao n c Tryz.underlying27 .i64 x (by omega) (by omega), Tryz.elem28, hx, Int.toNat_natCast]
 rfl
theorem cut_lh {w : World} {ao : Option Addr} {n c : Nat} {l : Ws} (h : Rt w (.slice ao n c) l) {a b : Nat} (hb : a + b ≤ l.length) {x y : Int} (hx : x = (a : Int)) (hy : y = (a : Int) + b) : ∃ ao' c', (∀ W, (Instr.slice 27 (.slice ao n c) (some (.int .i64 x)) (some (.int .i64 y)) none).run Tryz.prog W = .ok (.slice ao' b c') W) ∧ Rt w (.slice ao' b c') ((l.drop a).take b) := by
 have hc : l.length ≤ c := by obtain ⟨_, _, e, hc, _⟩ := h; simp only [Value.slice.injEq] at e; omega
 have hr := cut_rt h (lo := a) (hi := a + b) (by omega) hb
 rw [Nat.add_sub_cancel_left] at hr
 have e0 : sliced ao a (a + b) c 1 = .slice (if c = a then ao else ao.map (·.add (a * 1))) b (c - a) := by unfold sliced; rw [Nat.add_sub_cancel_left]
 rw [e0] at hr
 refine ⟨_, _, fun W => ?_, hr⟩
 have ey : y.toNat = a + b := by omega
 rw [run_slice_lh W 27 ao n c Tryz.underlying27 .i64 .i64 x y (by omega) (by omega) (by omega), Tryz.elem28, ey, hx, Int.toNat_natCast]
 show Result.ok (sliced ao a (a + b) c 1) W = _
 rw [e0]
set_option linter.unusedVariables false
theorem All.del {c d : Comp} {cs : List Comp} {w : World} (h : All (c :: d :: cs) w) : All (c :: cs) w := h.swap.tail
def WRPost (ws : Ws) (x : Int) (cs : List Comp) (en : Ending) (w' : World) : Prop :=
 ∃ v, en = .returned (.tuple #[v, .int .i64 x]) ∧ All (ownC 9 v (txW ws) :: cs) w'
theorem rt_nil (w : World) : Rt w (.slice none 0 0) [] := ⟨none, 0, rfl, Nat.le_refl _, Or.inl rfl⟩
theorem row2 {x : List UInt8} {v : Value} {l : Ws} {cs : List Comp} {w : World} (A : All cs w) (h : Rt w v l) (hl : l.length ≤ 1000) :
   Calls Tryz.prog 120 #[.string ⟨x.toArray⟩, v] w fun e w' => ∃ v', e = .returned v' ∧ All (ownC 9 v' (txW (x :: l)) :: cs) w' :=
 Calls.mono (row_any A h (by omega)) fun e w' ⟨ao, c, he, hA⟩ => ⟨_, he, hA⟩
theorem itoa_nat (n : Nat) : Lib.itoa (n : Int) = Lib.decDigits n := by
 unfold Lib.itoa
 rw [if_neg (by omega)]
 congr 1
end Go.Proofs.YtfeppannfcbakaaGreatDoor

namespace Go.Proofs.YtfeppannfcbakaaGreatDoor
open Go.RowKit Go.Lib
set_option linter.unusedVariables false
set_option maxRecDepth 1000000
set_option maxHeartbeats 800000
def nmN (k : Nat) : List UInt8 := (wfN.getD k ([], [])).1
def ltN (k : Nat) : List UInt8 := (wfN.getD k ([], [])).2
def Wf (w : World) : Prop := 2 < w.heap.size ∧ ∀ k, k < 9 → w.cell? ⟨2, k * 2, none⟩ = some (.string ⟨(nmN k).toArray⟩) ∧ w.cell? ⟨2, k * 2 + 1, none⟩ = some (.string ⟨(ltN k).toArray⟩)
theorem Wf.later {w w' : World} (h : Wf w) (hb : Below w.heap.size w w') : Wf w' := ⟨Nat.lt_of_lt_of_le h.1 hb.size, fun k hk => ⟨cell_under hb h.1 (h.2 k hk).1, cell_under hb h.1 (h.2 k hk).2⟩⟩
theorem ltN_in {k : Nat} {x : UInt8} (h : x ∈ ltN k) : x.toNat = 78 ∨ x.toNat = 84 ∨ x.toNat = 75 ∨ x.toNat = 77 := by
 have key : ∀ p ∈ wfN, ∀ x ∈ p.2, x.toNat = 78 ∨ x.toNat = 84 ∨ x.toNat = 75 ∨ x.toNat = 77 := by decide
 unfold ltN at h
 by_cases hk : k < wfN.length
 · rw [List.getD, List.getElem?_eq_getElem hk] at h
   exact key _ (List.getElem_mem hk) x h
 · rw [List.getD, List.getElem?_eq_none (by omega)] at h
   cases h
theorem ltN_len (k : Nat) : (ltN k).length ≤ 3 := by
 have key : ∀ p ∈ wfN, p.2.length ≤ 3 := by decide
 unfold ltN
 by_cases hk : k < wfN.length
 · rw [List.getD, List.getElem?_eq_getElem hk]
   exact key _ (List.getElem_mem hk)
 · rw [List.getD, List.getElem?_eq_none (by omega)]
   simp
def fieldW (nm tx : List UInt8) (n m : Nat) (c : Nat) : List UInt8 := if c = 78 then nm else if c = 84 then tx else if c = 75 then Lib.decDigits n else Lib.decDigits m
def flds (nm tx : List UInt8) (n m : Nat) (lt : List UInt8) : Ws := lt.map fun c => fieldW nm tx n m c.toNat
theorem flds_snoc (nm tx : List UInt8) (n m : Nat) {lt : List UInt8} {p : Nat} (h : p < lt.length) : flds nm tx n m (lt.take (p + 1)) = flds nm tx n m (lt.take p) ++ [fieldW nm tx n m (lt.getD p 0).toNat] := by
 rw [take_snocB h]
 simp [flds]
def itC (g : Nat) (s : ByteArray) (p : Nat) : Comp := ⟨fun w => w.heap[g]? = some (.stringIter s p), [g]⟩
theorem itC_good (g : Nat) (s : ByteArray) (p : Nat) : (itC g s p).Good := fun w w' h _ hb => (hb g (by simp [itC])).trans h
theorem iter_below (w : World) (s : ByteArray) : Below w.heap.size w (w.iter s 0) := ba w _
theorem All.addIt {cs : List Comp} {w : World} (h : All cs w) (s : ByteArray) : All (itC w.heap.size s 0 :: cs) (w.iter s 0) := by
 refine h.add (Fr.below (iter_below w s)) (itC_good _ _ _) (World.iter_heap w s 0) (fun k hk => ?_)
 have : k = w.heap.size := by simpa [itC] using hk
 subst this
 exact ⟨Nat.le_refl _, by simp [World.iter]⟩
theorem All.setIt {g : Nat} {s : ByteArray} {p : Nat} {cs : List Comp} {w : World} (h : All (itC g s p :: cs) w) (q : Nat) : All (itC g s q :: cs) (w.iterAt g s q) := by
 have hg : w.heap[g]? = some (.stringIter s p) := h.1.2.1
 refine h.turn ⟨rfl, rfl, rfl, by simp [World.iterAt], fun k hk hF => ?_⟩ (itC_good _ _ _) (iterAt_heap w g s p q hg) (fun k hk => Or.inl hk) (fun k hk => ?_)
 · have hne : g ≠ k := fun e => hF (by simp [itC, e])
   simp only [World.iterAt]
   rw [Array.getElem?_setIfInBounds_ne hne]
 · have : k = g := by simpa [itC] using hk
   subst this
   simpa [World.iterAt] using h.1.2.2 k (by simp [itC])
theorem next_at {w : World} {g : Nat} {lt : List UInt8} {p : Nat} {cs : List Comp} (h : All (itC g ⟨lt.toArray⟩ p :: cs) w) (hp : p < lt.length) (ha : (lt.getD p 0).toNat < 128) :
   (Instr.next (.pointer (some ⟨g, 0, none⟩)) true 0).run Tryz.prog w = .ok (.tuple #[.bool true, .int .i64 (p : Int), .int .i32 ((lt.getD p 0).toNat : Int)]) (w.iterAt g ⟨lt.toArray⟩ (p + 1)) := by
 have hs : (⟨lt.toArray⟩ : ByteArray).size = lt.length := by simp [ByteArray.size]
 have e : (⟨lt.toArray⟩ : ByteArray)[p]'(by rw [hs]; exact hp) = lt.getD p 0 := by
   show ByteArray.get _ _ _ = _
   simp [ByteArray.get, List.getD, hp]
 have := run_next_ascii_at (P := Tryz.prog) w g ⟨lt.toArray⟩ p 0 h.1.2.1 (by rw [hs]; exact hp) (by rw [e]; exact ha)
 rw [e] at this
 exact this
theorem next_end {w : World} {g : Nat} {lt : List UInt8} {p : Nat} {cs : List Comp} (h : All (itC g ⟨lt.toArray⟩ p :: cs) w) (hp : ¬ p < lt.length) :
   (Instr.next (.pointer (some ⟨g, 0, none⟩)) true 0).run Tryz.prog w = .ok (.tuple #[.bool false]) w :=
 run_next_end_at (P := Tryz.prog) w g ⟨lt.toArray⟩ p 0 h.1.2.1 (by simpa [ByteArray.size] using hp)
theorem field_any {k : Int} {nm tx : List UInt8} {n m c : Nat} {w : World} (V : Vars w) (hn : n ≤ 1099511627776) (hm : m ≤ 1099511627776) (hc : c = 78 ∨ c = 84 ∨ c = 75 ∨ c = 77) :
   Calls Tryz.prog 119 #[opV k ⟨nm.toArray⟩ ⟨tx.toArray⟩ (n : Int) (m : Int), .int .i32 (c : Int)] w fun e w' => e = .returned (.string ⟨(fieldW nm tx n m c).toArray⟩) ∧ Below w.heap.size w w' := by
 have b0 := ba w (.cells #[.int .i64 k, .string ⟨nm.toArray⟩, .string ⟨tx.toArray⟩, .int .i64 (n : Int), .int .i64 (m : Int)] 24)
 have I1 := Itoa_any (v := (n : Int)) (V.later b0) (by omega) (by omega)
 have I2 := Itoa_any (v := (m : Int)) (V.later b0) (by omega) (by omega)
 rw [itoa_nat] at I1 I2
 have B := hid b0
 have J1 := hid I1
 have J2 := hid I2
 clear I1 I2 V hn hm b0
 rcases hc with rfl | rfl | rfl | rfl
 · have e1 : fieldW nm tx n m 78 = nm := rfl
   rw [e1]
   clear e1 J1 J2
   generalize ByteArray.mk nm.toArray = X1 at *
   generalize ByteArray.mk tx.toArray = X2 at *
   go_enter Tryz.func119, Tryz.ntmps119
   go_wp2
   go_ret
   exact ⟨rfl, B.out⟩
 · have e1 : fieldW nm tx n m 84 = tx := rfl
   rw [e1]
   clear e1 J1 J2
   generalize ByteArray.mk nm.toArray = X1 at *
   generalize ByteArray.mk tx.toArray = X2 at *
   go_enter Tryz.func119, Tryz.ntmps119
   go_wp2
   go_ret
   exact ⟨rfl, B.out⟩
 · have e1 : fieldW nm tx n m 75 = Lib.decDigits n := rfl
   rw [e1]
   clear e1 J2
   generalize ByteArray.mk nm.toArray = X1 at *
   generalize ByteArray.mk tx.toArray = X2 at *
   generalize ByteArray.mk (Lib.decDigits n).toArray = X3 at *
   go_enter Tryz.func119, Tryz.ntmps119
   go_wp2_with (go_at_call 46; refine J1.out.mono ?_; rintro e w1 ⟨rfl, b1⟩; have B1 := hid (B.out.trans (b1.mono B.out.size)); clear b1)
   go_ret
   exact ⟨rfl, B1.out⟩
 · have e1 : fieldW nm tx n m 77 = Lib.decDigits m := rfl
   rw [e1]
   clear e1 J1
   generalize ByteArray.mk nm.toArray = X1 at *
   generalize ByteArray.mk tx.toArray = X2 at *
   generalize ByteArray.mk (Lib.decDigits m).toArray = X3 at *
   go_enter Tryz.func119, Tryz.ntmps119
   go_wp2_with (go_at_call 46; refine J2.out.mono ?_; rintro e w1 ⟨rfl, b1⟩; have B1 := hid (B.out.trans (b1.mono B.out.size)); clear b1)
   go_ret
   exact ⟨rfl, B1.out⟩
end Go.Proofs.YtfeppannfcbakaaGreatDoor

namespace Go.Proofs.YtfeppannfcbakaaGreatDoor
open Go.RowKit Go.Lib
set_option linter.unusedVariables false
set_option maxRecDepth 1000000
set_option maxHeartbeats 1600000
def opW (k : Nat) (nm tx : List UInt8) (n m : Nat) : Ws := nmN k :: flds nm tx n m (ltN k)
def chkO (k : Int) (nm tx : List UInt8) (n m : Int) : Int := chkA k nm.length tx.length n m
def opA (k : Int) (nm tx : List UInt8) (n m : Int) : Ws := if chkO k nm tx n m ≠ 0 then [] else opW k.toNat nm tx n.toNat m.toNat
theorem wr_ok {a b n : Int} (h : wr a b n = false) (hx : ex b n = false) (ha : 0 ≤ a) : 0 ≤ n ∧ (n ≤ b ∨ n = 0) ∧ (¬ 0 < b → n = 0) ∧ (0 < b → a ≤ n) := by
 by_cases hb : 0 < b
 · have h1 : a ≤ n ∧ n ≤ b := by simpa [wr, hs, hl, hb] using h
   refine ⟨by omega, Or.inl h1.2, fun h => absurd hb h, fun _ => h1.1⟩
 · have h1 : n = 0 := by simpa [ex, hs, hb] using hx
   exact ⟨by omega, Or.inr h1, fun _ => h1, fun h => absurd h hb⟩
theorem chkR_zero {a0 a1 a2 a3 a4 a5 a6 a7 s t n m : Int} (h : chkR a0 a1 a2 a3 a4 a5 a6 a7 s t n m = 0) : wr a0 a1 s = false ∧ wr a2 a3 t = false ∧ wr a4 a5 n = false ∧ wr a6 a7 m = false ∧ ex a1 s = false ∧ ex a3 t = false ∧ ex a5 n = false ∧ ex a7 m = false := by
 unfold chkR at h
 repeat' (split at h; · simp at h)
 simp_all
theorem chkO_zero {k : Int} {nm tx : List UInt8} {n m : Int} (h : chkO k nm tx n m = 0) : 1 ≤ k ∧ k ≤ 8 ∧ 0 ≤ n ∧ n ≤ 1099511627776 ∧ 0 ≤ m ∧ m ≤ 1099511627776 ∧ nm.length ≤ 64 ∧ tx.length ≤ 64
   ∧ (78 ∉ ltN k.toNat → nm = []) ∧ (84 ∉ ltN k.toNat → tx = []) ∧ (75 ∉ ltN k.toNat → n = 0) ∧ (77 ∉ ltN k.toNat → m = 0) := by
 unfold chkO chkA at h
 by_cases hk : k < 1 ∨ 8 < k
 · rw [if_pos hk] at h; simp at h
 rw [if_neg hk] at h
 unfold chkT at h
 obtain ⟨h1, h2, h3, h4, h5, h6, h7, h8⟩ := chkR_zero h
 clear h
 generalize hs1 : (nm.length : Int) = s1 at *
 generalize hs2 : (tx.length : Int) = s2 at *
 have hnm : ∀ {l : List UInt8}, (l.length : Int) = 0 → l = [] := fun {l} h => List.eq_nil_of_length_eq_zero (by omega)
 obtain rfl | rfl | rfl | rfl | rfl | rfl | rfl | rfl : k = 1 ∨ k = 2 ∨ k = 3 ∨ k = 4 ∨ k = 5 ∨ k = 6 ∨ k = 7 ∨ k = 8 := by omega
 all_goals
   have q1 := wr_ok h1 h5 (by decide)
   have q2 := wr_ok h2 h6 (by decide)
   have q3 := wr_ok h3 h7 (by decide)
   have q4 := wr_ok h4 h8 (by decide)
   clear h1 h2 h3 h4 h5 h6 h7 h8 hk
   simp [formN] at q1 q2 q3 q4
   refine ⟨by omega, by omega, by omega, by omega, by omega, by omega, by omega, by omega, fun hx => ?_, fun hx => ?_, fun hx => ?_, fun hx => ?_⟩
   all_goals first | omega | exact absurd (by decide) hx | (exact hnm (by omega))
theorem chkO_any {k : Int} {nm tx : List UInt8} {n m : Int} {w : World} (hT : Tab w) : Calls Tryz.prog 118 #[opV k ⟨nm.toArray⟩ ⟨tx.toArray⟩ n m] w fun e w' => e = .returned (.int .i64 (chkO k nm tx n m)) ∧ Below w.heap.size w w' := by
 have := check_any hT k ⟨nm.toArray⟩ ⟨tx.toArray⟩ n m
 have e1 : (⟨nm.toArray⟩ : ByteArray).size = nm.length := by simp [ByteArray.size]
 have e2 : (⟨tx.toArray⟩ : ByteArray).size = tx.length := by simp [ByteArray.size]
 rw [e1, e2] at this
 exact this
theorem blk5 {B : Nat} {a b c d e : Value} {t : TypeId} {cs : List Comp} {w : World} (h : All cs w) (hm : blkC B [a, b, c, d, e] t ∈ cs) : w.cell? ⟨B, 0, none⟩ = some a ∧ w.cell? ⟨B, 1, none⟩ = some b ∧ w.cell? ⟨B, 2, none⟩ = some c ∧ w.cell? ⟨B, 3, none⟩ = some d ∧ w.cell? ⟨B, 4, none⟩ = some e ∧ B < w.heap.size := by
 have hb := (h.mem hm).2.1
 exact ⟨by rw [cell_at hb]; rfl, by rw [cell_at hb]; rfl, by rw [cell_at hb]; rfl, by rw [cell_at hb]; rfl, by rw [cell_at hb]; rfl, (h.mem hm).2.2 B (by simp [blkC])⟩
theorem blk2 {B : Nat} {a b : Value} {t : TypeId} {cs : List Comp} {w : World} (h : All cs w) (hm : blkC B [a, b] t ∈ cs) : w.cell? ⟨B, 0, none⟩ = some a ∧ w.cell? ⟨B, 1, none⟩ = some b ∧ B < w.heap.size := by
 have hb := (h.mem hm).2.1
 exact ⟨by rw [cell_at hb]; rfl, by rw [cell_at hb]; rfl, (h.mem hm).2.2 B (by simp [blkC])⟩
theorem Op_any {k n m : Int} {nm tx : List UInt8} {cs : List Comp} {w : World} (A : All cs w) (hV : ∀ W, All cs W → Vars W) (hT : ∀ W, All cs W → Tab W) (hW : ∀ W, All cs W → Wf W) :
   Calls Tryz.prog 88 #[opV k ⟨nm.toArray⟩ ⟨tx.toArray⟩ n m] w (WRPost (opA k nm tx n m) (chkO k nm tx n m) cs) := by
 have A0 := hid (A.addBlk [.int .i64 k, .string ⟨nm.toArray⟩, .string ⟨tx.toArray⟩, .int .i64 n, .int .i64 m] 24)
 have CK := hid (chkO_any (k := k) (nm := nm) (tx := tx) (n := n) (m := m) (hT _ A0.out.tail))
 by_cases hX : chkO k nm tx n m ≠ 0
 · have e1 : opA k nm tx n m = [] := by unfold opA; rw [if_pos hX]
   rw [e1]
   have hX' : (chkO k nm tx n m != 0) = true := by simpa using hX
   clear e1 hX hT hV hW A
   generalize chkO k nm tx n m = XX at *
   generalize ByteArray.mk nm.toArray = X1 at *
   generalize ByteArray.mk tx.toArray = X2 at *
   go_enter Tryz.func88, Tryz.ntmps88
   go_wp2_with (go_at_call 118; refine CK.out.mono ?_; rintro e w1 ⟨rfl, B1⟩; have A1 := hid (A0.out.later B1); clear B1)
   go_ret2
   exact ⟨_, rfl, All.addNil A1.out.tail⟩
 have hX0 : chkO k nm tx n m = 0 := Classical.byContradiction hX
 have e1 : opA k nm tx n m = opW k.toNat nm tx n.toNat m.toNat := by unfold opA; rw [if_neg hX]
 obtain ⟨hk1, hk8, hn0, hn1, hm0, hm1, _, _, _⟩ := chkO_zero hX0
 rw [e1]
 rw [hX0] at CK ⊢
 clear hX hX0 e1 A
 obtain ⟨k, rfl⟩ := Int.eq_ofNat_of_zero_le (show 0 ≤ k by omega)
 obtain ⟨n, rfl⟩ := Int.eq_ofNat_of_zero_le hn0
 obtain ⟨m, rfl⟩ := Int.eq_ofNat_of_zero_le hm0
 rw [Int.toNat_natCast, Int.toNat_natCast, Int.toNat_natCast]
 have hk9 : (k : Int) < 9 := by omega
 have TB : Hid (∀ W, All cs W → W.cell? ⟨2, k * 2, none⟩ = some (.string ⟨(nmN k).toArray⟩) ∧ W.cell? ⟨2, k * 2 + 1, none⟩ = some (.string ⟨(ltN k).toArray⟩)) := hid (fun W h => (hW W h).2 k (by omega))
 have F19 : Hid (∀ (c : Nat) ds W, All ds W → (∀ W, All ds W → All cs W) → (c = 78 ∨ c = 84 ∨ c = 75 ∨ c = 77) → Calls Tryz.prog 119 #[opV (k : Int) ⟨nm.toArray⟩ ⟨tx.toArray⟩ (n : Int) (m : Int), .int .i32 (c : Int)] W fun e w' => e = .returned (.string ⟨(fieldW nm tx n m c).toArray⟩) ∧ All ds w') := hid (fun c ds W h hcs hc => (field_any (hV W (hcs W h)) (by omega) (by omega) hc).mono fun e w' ⟨he, hb⟩ => ⟨he, h.later hb⟩)
 have LT : Hid (∀ p, p < (ltN k).length → ((ltN k).getD p 0).toNat = 78 ∨ ((ltN k).getD p 0).toNat = 84 ∨ ((ltN k).getD p 0).toNat = 75 ∨ ((ltN k).getD p 0).toNat = 77) := hid (fun p hp => ltN_in (by
   have : (ltN k).getD p 0 = (ltN k)[p] := by simp [List.getD, hp]
   rw [this]; exact List.getElem_mem hp))
 have L3 := hid (ltN_len k)
 have SN : Hid (∀ p, p < (ltN k).length → flds nm tx n m ((ltN k).take (p + 1)) = flds nm tx n m ((ltN k).take p) ++ [fieldW nm tx n m ((ltN k).getD p 0).toNat]) := hid (fun p hp => flds_snoc nm tx n m hp)
 have FL : Hid (∀ p, (flds nm tx n m ((ltN k).take p)).length ≤ p) := hid (fun p => by simp [flds]; omega)
 have EW : Hid (opW k nm tx n m = nmN k :: flds nm tx n m ((ltN k).take (ltN k).length)) := hid (by rw [List.take_length]; rfl)
 generalize opW k nm tx n m = OW at *
 clear hT hV hW hn0 hm0 hk8
 generalize hlt : ltN k = lt at *
 clear hlt
 generalize hXl : ByteArray.mk lt.toArray = XL at *
 have HXL := hid hXl
 clear hXl
 generalize ByteArray.mk nm.toArray = X1 at *
 generalize ByteArray.mk tx.toArray = X2 at *
 generalize hXn : ByteArray.mk (nmN k).toArray = XN at *
 have HXN := hid hXn
 clear hXn
 go_enter Tryz.func88, Tryz.ntmps88
 go_wp2_with (go_at_call 118; refine CK.out.mono ?_; rintro e w1 ⟨rfl, B1⟩; have A1 := hid (A0.out.later B1); clear B1; refine Hid.out ?_)
 refine hid ?_
 clear CK A0
 have hb := A1.out.1.2.1
 have o0 : w1.cell? ⟨w.heap.size, 0, none⟩ = some (.int .i64 (k : Int)) := by rw [cell_at hb]; rfl
 clear hb
 obtain ⟨t0, t1⟩ := TB.out _ A1.out.tail
 have A2 := hid (A1.out.addBlk [.string XN, .string XL] 171)
 have esz : (w1.alloc (.cells #[.string XN, .string XL] 171)).heap.size = w1.heap.size + 1 := by simp
 have A3 := A2.out.addIt XL
 have B3 : Hid (All (ownC 9 (.slice none 0 0) (txW (flds nm tx n m (lt.take 0))) :: itC (w1.heap.size + 1) XL 0 :: blkC w1.heap.size [.string XN, .string XL] 171 :: blkC w.heap.size [.int .i64 (k : Int), .string X1, .string X2, .int .i64 (n : Int), .int .i64 (m : Int)] 24 :: cs) ((w1.alloc (.cells #[.string XN, .string XL] 171)).iter XL 0)) := hid (by rw [← esz]; exact All.addNil A3)
 clear A2 A3 esz A1
 go_wp2_with fail
 generalize hI : w1.heap.size + 1 = IT at *
 clear hI
 go_loopw [6, 8] (fun av u wr => ∃ p, p ≤ lt.length ∧ Hid (All (ownC 9 av (txW (flds nm tx n m (lt.take p))) :: itC IT XL p :: blkC w1.heap.size [.string XN, .string XL] 171 :: blkC w.heap.size [.int .i64 (k : Int), .string X1, .string X2, .int .i64 (n : Int), .int .i64 (m : Int)] 24 :: cs) wr)) (fun av u wr => lt.length - wr.iterPos IT)
 case atStart => exact ⟨0, Nat.zero_le _, B3⟩
 case round =>
   clear B3 o0 t0 t1 TB
   obtain ⟨p, hp, HA⟩ := hrel
   by_cases hlt : p < lt.length
   · have hn := next_at (lt := lt) (p := p) (g := IT) (w := wr) (by rw [HXL.out]; exact HA.out.swap) hlt (by have := LT.out p hlt; omega)
     rw [HXL.out] at hn
     have A4 := hid ((HA.out.swap.setIt (p + 1)).swap)
     have m0 : Hid (wr.iterPos IT = p) := hid (iterPos_of HA.out.tail.1.2.1)
     have hc := hid (LT.out p hlt)
     have sn := hid (SN.out p hlt)
     clear HA
     generalize wr.iterAt IT XL (p + 1) = w2 at hn A4
     obtain ⟨r0, r1, r2, r3, r4, _⟩ := blk5 A4.out (.tail _ (.tail _ (.tail _ (.head _))))
     have Q := hid (F19.out _ _ _ A4.out (fun W h => h.tail.tail.tail.tail) hc.out)
     clear hc LT SN F19
     generalize hFW : fieldW nm tx n m (lt.getD p 0).toNat = FW at Q sn
     clear hFW
     generalize (lt.getD p 0).toNat = C at hn Q
     generalize hY : ByteArray.mk FW.toArray = Y at Q
     have HY := hid hY
     clear hY
     go_wp2_with (go_at_call 119; refine Q.out.mono ?_; rintro e w3 ⟨rfl, A5⟩; have B5 := hid A5; clear A5; refine Hid.out ?_)
     refine hid ?_
     clear Q A4 hn r0 r1 r2 r3 r4
     obtain ⟨ao6, c6, w6, hr6, A6⟩ := app_txt B5.out FW (by have := FL.out p; have := L3.out; omega)
     rw [HY.out] at hr6
     have R6 := hid hr6
     rw [← sn.out] at A6
     have B6 := hid A6
     have m6 : Hid (w6.iterPos IT = p + 1) := hid (iterPos_of A6.tail.1.2.1)
     clear hr6 A6 B5
     go_wp2_with (at_builtin; refine wpList_append_run rfl _ _ 27 rfl _ _ _ _ rfl rfl R6.out ?_)
     go_roundw
     case rel => exact ⟨p + 1, hlt, B6⟩
     case measure => rw [m0.out, m6.out]; omega
   · have hn := next_end (lt := lt) (p := p) (g := IT) (w := wr) (by rw [HXL.out]; exact HA.out.swap) hlt
     have ep : p = lt.length := by omega
     subst ep
     obtain ⟨r0, r1, _⟩ := blk2 HA.out (.tail _ (.tail _ (.head _)))
     have Q := row2 (x := nmN k) HA.out (rt_own HA.out) (by have := FL.out lt.length; have := L3.out; omega)
     rw [HXN.out, ← EW.out] at Q
     have QQ := hid Q
     clear Q HA
     go_wp2_with (go_at_call 120; refine QQ.out.mono ?_; rintro e w5 ⟨v5, rfl, A5⟩; have B5 := hid A5; clear A5; refine Hid.out ?_)
     refine hid ?_
     go_wp2
     go_ret2
     exact ⟨_, rfl, B5.out.del.del.del.del⟩
end Go.Proofs.YtfeppannfcbakaaGreatDoor

namespace Go.Proofs.YtfeppannfcbakaaGreatDoor
open Go.RowKit
set_option linter.unusedVariables false
theorem hasName_any {w : World} (k : Int) : Calls Tryz.prog 124 #[.int .i64 k] w fun e w' => e = .returned (.bool (decide (1 ≤ k ∧ k ≤ 7))) ∧ w' = w := by
 by_cases h : 1 ≤ k
 · have e1 : decide (1 ≤ k) = true := by simpa using h
   have e : decide (1 ≤ k ∧ k ≤ 7) = decide (k ≤ 7) := by rw [Bool.eq_iff_iff]; simp; omega
   rw [e]; clear e
   go_enter Tryz.func124, Tryz.ntmps124
   go_wp2
   go_ret
   exact ⟨rfl, rfl⟩
 · have e1 : decide (1 ≤ k) = false := by simpa using h
   have e : decide (1 ≤ k ∧ k ≤ 7) = false := by simp; omega
   rw [e]; clear e
   go_enter Tryz.func124, Tryz.ntmps124
   go_wp2
   go_ret
   exact ⟨rfl, rfl⟩
theorem hasNum_any {w : World} (k : Int) : Calls Tryz.prog 127 #[.int .i64 k] w fun e w' => e = .returned (.bool (decide (k = 4 ∨ k = 6))) ∧ w' = w := by
 by_cases h : k = 4
 · subst h
   go_enter Tryz.func127, Tryz.ntmps127
   go_wp2
   go_ret
   exact ⟨by simp, rfl⟩
 · have e1 : (k == 4) = false := by simpa using h
   have e : decide (k = 4 ∨ k = 6) = (k == 6) := by rw [Bool.eq_iff_iff]; simp; omega
   rw [e]; clear e
   go_enter Tryz.func127, Tryz.ntmps127
   go_wp2
   go_ret
   exact ⟨rfl, rfl⟩
def tMost (k : Int) : Int := if k = 3 then 64 else if k = 5 then 16 else -1
def tLeast (k : Int) : Int := if k = 5 then 1 else 0
theorem textMost_any {w : World} (k : Int) : Calls Tryz.prog 125 #[.int .i64 k] w fun e w' => e = .returned (.int .i64 (tMost k)) ∧ w' = w := by
 by_cases h : k = 3
 · subst h
   go_enter Tryz.func125, Tryz.ntmps125
   go_wp2
   go_ret
   exact ⟨rfl, rfl⟩
 · have e1 : (k == 3) = false := by simpa using h
   by_cases h5 : k = 5
   · subst h5
     go_enter Tryz.func125, Tryz.ntmps125
     go_wp2
     go_ret
     exact ⟨rfl, rfl⟩
   · have e2 : (k == 5) = false := by simpa using h5
     rw [show tMost k = -1 by simp [tMost, h, h5]]
     clear h h5
     go_enter Tryz.func125, Tryz.ntmps125
     go_wp2
     go_ret
     exact ⟨rfl, rfl⟩
theorem textLeast_any {w : World} (k : Int) : Calls Tryz.prog 126 #[.int .i64 k] w fun e w' => e = .returned (.int .i64 (tLeast k)) ∧ w' = w := by
 by_cases h : k = 5
 · subst h
   go_enter Tryz.func126, Tryz.ntmps126
   go_wp2
   go_ret
   exact ⟨rfl, rfl⟩
 · have e1 : (k == 5) = false := by simpa using h
   rw [show tLeast k = 0 by simp [tLeast, h]]
   clear h
   go_enter Tryz.func126, Tryz.ntmps126
   go_wp2
   go_ret
   exact ⟨rfl, rfl⟩
theorem nonempty (v : ByteArray) (h : ¬ v.size = 0) : v.toList.isEmpty = false := by
 rw [ByteArray.toList_eq]
 obtain ⟨⟨l⟩⟩ := v
 cases l with
 | nil => exact absurd rfl h
 | cons a l => rfl
theorem isempty (v : ByteArray) (h : v.size = 0) : v.toList.isEmpty = true := by
 rw [ByteArray.toList_eq]
 obtain ⟨⟨l⟩⟩ := v
 cases l with
 | nil => rfl
 | cons a l => simp [ByteArray.size] at h
abbrev opC (k : Int) (nm tx : ByteArray) (n m : Int) : Obj := .cells #[.int .i64 k, .string nm, .string tx, .int .i64 n, .int .i64 m] 24
structure Bx (w w1 : World) (k : Int) (nm tx : ByteArray) (n m : Int) : Prop where
 op : w1.heap[w.heap.size]? = some (opC k nm tx n m)
 below : Below w.heap.size w w1
theorem Bx.first (w : World) (k : Int) (nm tx : ByteArray) (n m : Int) : Bx w (w.alloc (opC k nm tx n m)) k nm tx n m := ⟨heap_alloc_new w _, ba w _⟩
theorem Bx.drewN {w w1 : World} {k : Int} {nm tx : ByteArray} {n m : Int} (h : Bx w w1 k nm tx n m) (q : Nat) : Bx w (w1.drewN q) k nm tx n m := ⟨h.op, ⟨h.below.os, h.below.tape, h.below.output, h.below.size, h.below.block⟩⟩
end Go.Proofs.YtfeppannfcbakaaGreatDoor

import Derived.Test.YtdhkdniddjnigaaGreatDoorJ4
import Derived.Test.YtdhkdniddjnigaaGreatDoorJ1
import Derived.Shelf.Strings.BuilderK
import Derived.Test.YtdhkdniddjnigaaGreatDoorProg
import Derived.Test.YtdhkdniddjnigaaGreatDoorJ3
import Derived.Lib.AppendStr
namespace Go.Proofs.YtdhkdniddjnigaaGreatDoor
open Go.RowKit
set_option linter.unusedVariables false

set_option maxHeartbeats 6400000 in
set_option maxRecDepth 1000000 in
theorem rquoted_any {l : List UInt8} {o : Nat} {ws : Ws} {cs : List Comp} {w : World} (h : All cs w) (hl : l.length ≤ 8192) (ho : o < l.length) :
    Calls Tryz.prog 135 #[.string ⟨l.toArray⟩, .int .i64 (o : Int)] w (QPost (runW (.quote o []) ws (o + 1) (l.drop (o + 1))) l o ws cs) := by
  have hz : (⟨l.toArray⟩ : ByteArray).size = l.length := by simp [ByteArray.size]
  have IX : Hid (∀ k, k < l.length → ∀ W, (Instr.index 9 (.string ⟨l.toArray⟩) (.int .i64 (k : Int))).run Tryz.prog W = .ok (.int .u8 ((l.getD k 0).toNat : Int)) W) := fun k hk W => idx_at hk W
  have N := hid (All.addNil (e := 5) h)
  generalize hA : runW (.quote o []) ws (o + 1) (l.drop (o + 1)) = AN at *
  have HA := hid hA
  clear hA h
  generalize ByteArray.mk l.toArray = S at *
  generalize hn : l.length = n at *
  have HN := hid hn
  clear hn
  go_enter Tryz.func135, Tryz.ntmps135
  go_wp2
  go_loopw [7, 8] (fun ov iv wr => ∃ (i : Nat) (x : List UInt8) (ao : Option Addr) (c : Nat), i ≤ n ∧ o < i ∧ iv = .int .i64 (i : Int) ∧ ov = .slice ao x.length c ∧ x.length ≤ i ∧ Hid (All (ownC 5 (.slice ao x.length c) (cellsB x) :: cs) wr) ∧ Hid (AN = runW (.quote o x) ws i (l.drop i))) (fun _ iv _ => n - (intOf iv).toNat)
  case atStart => exact ⟨o + 1, [], none, 0, by omega, by omega, by go_num, rfl, by simp, N, hid HA.out.symm⟩
  case round =>
    obtain ⟨i, x, ao, c, hi, hoi, rfl, rfl, hx, hA, hrun⟩ := hrel
    by_cases hlt : i < n
    · have hlt' : (i : Int) < (n : Int) := by omega
      have ix := IX.out i hlt
      generalize hb : l.getD i 0 = b at ix
      have HB := hid hb
      clear hb
      by_cases h34 : b.toNat = 34
      · have bi : (b.toNat : Int) = 34 := by omega
        rw [bi] at ix
        have cv := conv_string (reads_own hA.out)
        have C := hid (risBare_any (l := x) (w := wr) (by omega))
        have D := hid hA.out.tail
        cases hw : isBareW x with
        | true =>
          have fin : Hid (AN = .byte o) := hid (by rw [hrun.out]; exact runW_bad (by rw [HN.out]; exact hlt) (by rw [HB.out]; simp [stepW, h34, hw]))
          clear h34 bi
          generalize ByteArray.mk x.toArray = X at *
          generalize x.length = nx at *
          go_wp2_with (go_at_call 150; refine C.out.mono ?_; rintro e w1 ⟨rfl, rfl⟩; rw [hw])
          go_ret3
          exact ⟨[], o, 161, rfl, D.out, Or.inr ⟨by omega, by rw [fin.out]; rfl, by rw [fin.out]; rfl, by rw [fin.out]; rfl⟩⟩
        | false =>
          have fin : Hid (AN = runW .closed (ws ++ [x]) (i + 1) (l.drop (i + 1))) := hid (by rw [hrun.out]; exact runW_go (by rw [HN.out]; exact hlt) (by rw [HB.out]; simp [stepW, h34, hw]))
          clear h34 bi
          generalize hX : ByteArray.mk x.toArray = X at *
          have HX := hid hX
          clear hX
          generalize x.length = nx at *
          go_wp2_with (go_at_call 150; refine C.out.mono ?_; rintro e w1 ⟨rfl, rfl⟩; rw [hw])
          go_ret3
          refine ⟨x, i + 1, 0, ?_, D.out, Or.inl ⟨rfl, by rw [HN.out]; omega, by omega, fin.out⟩⟩
          rw [HX.out]
          rfl
      · have n34 : ((b.toNat : Int) == 34) = false := by simp; omega
        by_cases hp : 32 ≤ b.toNat ∧ b.toNat ≤ 126
        · have p1 : ¬ (b.toNat : Int) < 32 := by omega
          have p2 : ¬ (126 : Int) < (b.toNat : Int) := by omega
          by_cases h92 : b.toNat = 92
          · have bi : (b.toNat : Int) = 92 := by omega
            rw [bi] at ix
            have hesc : Hid (AN = runW (.esc o x i) ws (i + 1) (l.drop (i + 1))) := hid (by rw [hrun.out]; exact runW_go (by rw [HN.out]; exact hlt) (by rw [HB.out]; simp [stepW, h92]))
            clear hrun h92 bi h34 n34 p1 p2 hp HB
            by_cases hlt1 : i + 1 < n
            · have hge1 : ¬ (n : Int) ≤ (i : Int) + 1 := by omega
              have ix1 := IX.out (i + 1) hlt1
              rw [show ((i + 1 : Nat) : Int) = (i : Int) + 1 from by omega] at ix1
              generalize hb1 : l.getD (i + 1) 0 = b1 at ix1
              have HB1 := hid hb1
              clear hb1
              by_cases hq : b1.toNat = 34 ∨ b1.toNat = 92
              · have e0 : b1.toNat ≠ 120 := by omega
                have nxt : Hid (AN = runW (.quote o (x ++ [b1])) ws (i + 2) (l.drop (i + 2))) := hid (by rw [hesc.out]; exact runW_go (by rw [HN.out]; exact hlt1) (by rw [HB1.out]; simp [stepW, e0, hq]))
                clear e0
                obtain ⟨ao1, c1, w1, hr, A1⟩ := app_byte hA.out b1 (by omega)
                have R := hid hr
                have A2 := hid A1
                have EL := hid (show (x ++ [b1]).length = x.length + 1 by simp)
                clear hr A1
                by_cases h34 : b1.toNat = 34
                · have bj : (b1.toNat : Int) = 34 := by omega
                  rw [bj] at ix1 R
                  clear h34 bj hq
                  generalize hnw : x.length = nw at *
                  clear hnw
                  go_wp2_with (at_builtin; refine wpList_append_run rfl _ _ 40 rfl _ _ _ _ rfl rfl R.out ?_)
                  go_roundw
                  case rel => exact ⟨i + 2, x ++ [b1], ao1, c1, by omega, by omega, by go_num, by rw [EL.out], by rw [EL.out]; omega, hid (by rw [EL.out]; exact A2.out), nxt⟩
                  case measure => simp [intOf]; omega
                · have bj : (b1.toNat : Int) = 92 := by omega
                  rw [bj] at ix1 R
                  clear h34 bj hq
                  generalize hnw : x.length = nw at *
                  clear hnw
                  go_wp2_with (at_builtin; refine wpList_append_run rfl _ _ 40 rfl _ _ _ _ rfl rfl R.out ?_)
                  go_roundw
                  case rel => exact ⟨i + 2, x ++ [b1], ao1, c1, by omega, by omega, by go_num, by rw [EL.out], by rw [EL.out]; omega, hid (by rw [EL.out]; exact A2.out), nxt⟩
                  case measure => simp [intOf]; omega
              · have n34 : ((b1.toNat : Int) == 34) = false := by simp; omega
                have n92 : ((b1.toNat : Int) == 92) = false := by simp; omega
                by_cases h120 : b1.toNat = 120
                · have bj : (b1.toNat : Int) = 120 := by omega
                  rw [bj] at ix1
                  have inn : Hid (Inn AN l o i x ws 0 0) := hid ⟨rfl, by rw [hesc.out]; exact runW_go (by rw [HN.out]; exact hlt1) (by rw [HB1.out]; simp [stepW, h120])⟩
                  clear hesc HB1 hq n34 n92 h120 bj
                  go_wp2
                  go_loopw [10, 11] (fun vv kv wr2 => ∃ (j v : Nat), j ≤ 2 ∧ i + 2 + j ≤ n ∧ kv = .int .i64 ((i : Int) + 2 + j) ∧ vv = .int .i64 (v : Int) ∧ v < 256 ∧ Hid (Inn AN l o i x ws j v) ∧ wr2 = wr) (fun _ kv _ => i + 4 - (intOf kv).toNat)
                  case atStart => exact ⟨0, 0, by omega, by omega, by go_num, rfl, by omega, inn, rfl⟩
                  case round =>
                    obtain ⟨j, v, hj, hjn, rfl, rfl, hv, hinn, rfl⟩ := hrel
                    clear inn ix ix1
                    by_cases hj2 : j < 2
                    · have hk4 : (i : Int) + 2 + j < (i : Int) + 4 := by omega
                      by_cases hlt2 : i + 2 + j < n
                      · have hgeF : ¬ (n : Int) ≤ (i : Int) + 2 + j := by omega
                        have ix2 := IX.out (i + 2 + j) hlt2
                        rw [show ((i + 2 + j : Nat) : Int) = (i : Int) + 2 + j from by omega] at ix2
                        have DG := hid (rdigit_any (l.getD (i + 2 + j) 0) wr)
                        cases hx2 : hexN (l.getD (i + 2 + j) 0).toNat with
                        | none =>
                          have fin : Hid (AN = .byte (i + 2 + j)) := hid (hinn.out.bad hj2 (by rw [HN.out]; exact hlt2) hx2)
                          have D := hid hA.out.tail
                          rw [hx2] at DG
                          clear hx2 hinn
                          generalize (l.getD (i + 2 + j) 0) = b2 at *
                          generalize (b2.toNat : Int) = bi2 at *
                          go_wp2_with (go_at_call 181; refine DG.out.mono ?_; rintro e w1 ⟨rfl, rfl⟩; simp only)
                          go_ret3
                          refine ⟨[], i + 2 + j, 161, ?_, D.out, Or.inr ⟨by omega, by rw [fin.out]; rfl, by rw [fin.out]; rfl, by rw [fin.out]; rfl⟩⟩
                          rw [show ((i + 2 + j : Nat) : Int) = (i : Int) + 2 + j from by omega]
                          rfl
                        | some d =>
                          have nin := hid (hinn.out.next hj2 (by rw [HN.out]; exact hlt2) hx2)
                          have hd := hexN_lt hx2
                          have hv2 := nin.out.small
                          rw [hx2] at DG
                          clear hx2 hinn
                          generalize (l.getD (i + 2 + j) 0) = b2 at *
                          generalize (b2.toNat : Int) = bi2 at *
                          go_wp2_with (go_at_call 181; refine DG.out.mono ?_; rintro e w1 ⟨rfl, rfl⟩; simp only)
                          go_roundw
                          case rel => exact ⟨j + 1, 16 * v + d, by omega, by omega, by go_num, by go_num, hv2, nin, trivial⟩
                          case measure => simp [intOf]; omega
                      · have hgeF : (n : Int) ≤ (i : Int) + 2 + j := by omega
                        have fin : Hid (AN = .stop n) := hid (by rw [hinn.out.stop hj2 (by rw [HN.out]; omega)]; congr 1; omega)
                        have D := hid hA.out.tail
                        clear hinn
                        go_wp2
                        go_ret3
                        exact ⟨[], n, 162, rfl, D.out, Or.inr ⟨by omega, by rw [fin.out]; rfl, by rw [fin.out]; rfl, by rw [fin.out]; rfl⟩⟩
                    · have hk4 : ¬ (i : Int) + 2 + j < (i : Int) + 4 := by omega
                      have ej : j = 2 := by omega
                      have hin2 : Hid (Inn AN l o i x ws 2 v) := hid (by rw [← ej]; exact hinn.out)
                      have hjn2 : i + 4 ≤ n := by omega
                      clear ej hinn hj hjn
                      by_cases hp : 32 ≤ v ∧ v ≤ 126
                      · have p1 : (32 : Int) ≤ v := by omega
                        have p2 : (v : Int) ≤ 126 := by omega
                        have fin : Hid (AN = .byte i) := hid (by rw [hin2.out.2.2, if_pos (by simp [prnN, hp])])
                        have D := hid hA.out.tail
                        clear hin2
                        go_wp2
                        go_ret3
                        exact ⟨[], i, 161, rfl, D.out, Or.inr ⟨by omega, by rw [fin.out]; rfl, by rw [fin.out]; rfl, by rw [fin.out]; rfl⟩⟩
                      · have nxt : Hid (AN = runW (.quote o (x ++ [UInt8.ofNat v])) ws (i + 4) (l.drop (i + 4))) := hid (by rw [hin2.out.2.2, if_neg (by simp [prnN]; omega)])
                        obtain ⟨ao1, c1, w1, hr, A1⟩ := app_byte hA.out (UInt8.ofNat v) (by omega)
                        rw [show (UInt8.ofNat v).toNat = v by simp; omega] at hr
                        have R := hid hr
                        have A2 := hid A1
                        have EL := hid (show (x ++ [UInt8.ofNat v]).length = x.length + 1 by simp)
                        have hw8 : IntKind.u8.wrap (v : Int) = v := by
                          have : ∀ a : Fin 256, IntKind.u8.wrap (a.val : Int) = a.val := by decide +kernel
                          exact this ⟨v, hv⟩
                        clear hr A1 hin2
                        generalize hnw : x.length = nw at *
                        clear hnw
                        by_cases p1 : (32 : Int) ≤ v
                        · have p2 : ¬ (v : Int) ≤ 126 := by omega
                          clear hp
                          go_wp2_with (at_builtin; refine wpList_append_run rfl _ _ 40 rfl _ _ _ _ rfl rfl R.out ?_)
                          go_roundw
                          case rel => exact ⟨i + 4, x ++ [UInt8.ofNat v], ao1, c1, by omega, by omega, by go_num, by rw [EL.out], by rw [EL.out]; omega, hid (by rw [EL.out]; exact A2.out), nxt⟩
                          case measure => simp [intOf]; omega
                        · clear hp
                          go_wp2_with (at_builtin; refine wpList_append_run rfl _ _ 40 rfl _ _ _ _ rfl rfl R.out ?_)
                          go_roundw
                          case rel => exact ⟨i + 4, x ++ [UInt8.ofNat v], ao1, c1, by omega, by omega, by go_num, by rw [EL.out], by rw [EL.out]; omega, hid (by rw [EL.out]; exact A2.out), nxt⟩
                          case measure => simp [intOf]; omega
                · have n120 : ((b1.toNat : Int) != 120) = true := by simp; omega
                  have fin : Hid (AN = .byte (i + 1)) := hid (by rw [hesc.out]; exact runW_bad (by rw [HN.out]; exact hlt1) (by rw [HB1.out]; simp [stepW, h120, hq]))
                  have D := hid hA.out.tail
                  clear hq h120 hesc
                  go_wp2
                  go_ret3
                  exact ⟨[], i + 1, 161, rfl, D.out, Or.inr ⟨by omega, by rw [fin.out]; rfl, by rw [fin.out]; rfl, by rw [fin.out]; rfl⟩⟩
            · have hge1 : (n : Int) ≤ (i : Int) + 1 := by omega
              have fin : Hid (AN = .stop n) := hid (by rw [hesc.out, runW_end (by rw [HN.out]; omega)]; simp only [finW]; congr 1; omega)
              have D := hid hA.out.tail
              clear hesc
              go_wp2
              go_ret3
              exact ⟨[], n, 162, rfl, D.out, Or.inr ⟨by omega, by rw [fin.out]; rfl, by rw [fin.out]; rfl, by rw [fin.out]; rfl⟩⟩
          · have n92 : ((b.toNat : Int) != 92) = true := by simp; omega
            have nx : Hid (AN = runW (.quote o (x ++ [b])) ws (i + 1) (l.drop (i + 1))) := hid (by rw [hrun.out]; exact runW_go (by rw [HN.out]; exact hlt) (by rw [HB.out]; simp [stepW, h34, h92, prnN, hp]))
            obtain ⟨ao1, c1, w1, hr, A1⟩ := app_byte hA.out b (by omega)
            have R := hid hr
            have A2 := hid A1
            have el : (x ++ [b]).length = x.length + 1 := by simp
            have EL := hid el
            clear hr A1 h34 h92 hp el
            generalize (b.toNat : Int) = bi at *
            generalize hnw : x.length = nw at *
            clear hnw
            go_wp2_with (at_builtin; refine wpList_append_run rfl _ _ 40 rfl _ _ _ _ rfl rfl R.out ?_)
            go_roundw
            case rel => exact ⟨i + 1, x ++ [b], ao1, c1, by omega, by omega, by go_num, by rw [EL.out], by rw [EL.out]; omega, hid (by rw [EL.out]; exact A2.out), nx⟩
            case measure => simp [intOf]; omega
        · have e9 : b.toNat ≠ 92 := by omega
          have fin : Hid (AN = .byte i) := hid (by rw [hrun.out]; exact runW_bad (by rw [HN.out]; exact hlt) (by rw [HB.out]; simp [stepW, h34, e9, prnN, hp]))
          clear e9
          have D := hid hA.out.tail
          by_cases p1 : (b.toNat : Int) < 32
          · clear h34 hp
            go_wp2
            go_ret3
            exact ⟨[], i, 161, rfl, D.out, Or.inr ⟨by omega, by rw [fin.out]; rfl, by rw [fin.out]; rfl, by rw [fin.out]; rfl⟩⟩
          · have p2 : (126 : Int) < (b.toNat : Int) := by omega
            clear h34 hp
            go_wp2
            go_ret3
            exact ⟨[], i, 161, rfl, D.out, Or.inr ⟨by omega, by rw [fin.out]; rfl, by rw [fin.out]; rfl, by rw [fin.out]; rfl⟩⟩
    · have hlt' : ¬ (i : Int) < (n : Int) := by omega
      have hge : (n : Int) ≤ (i : Int) := by omega
      have fin : Hid (AN = .stop n) := hid (by rw [hrun.out, runW_end (by rw [HN.out]; omega)]; simp only [finW]; congr 1; omega)
      have D := hid hA.out.tail
      go_wp2
      go_ret3
      exact ⟨[], n, 162, rfl, D.out, Or.inr ⟨by omega, by rw [fin.out]; rfl, by rw [fin.out]; rfl, by rw [fin.out]; rfl⟩⟩
end Go.Proofs.YtdhkdniddjnigaaGreatDoor

namespace Go.Proofs.YtdhkdniddjnigaaGreatDoor
open Go.RowKit
set_option linter.unusedVariables false

/-- What stands from a place to another. -/
def cutW (l : List UInt8) (i j : Nat) : List UInt8 := (l.drop i).take (j - i)
theorem cutW_snoc {l : List UInt8} {i j : Nat} (hi : i ≤ j) (hj : j < l.length) : cutW l i (j + 1) = cutW l i j ++ [l.getD j 0] := by
  unfold cutW
  rw [show j + 1 - i = (j - i) + 1 by omega, List.take_add_one]
  congr 1
  rw [List.getElem?_drop, show i + (j - i) = j by omega, List.getElem?_eq_getElem hj]
  simp [List.getD, hj]
theorem cutW_one {l : List UInt8} {i : Nat} (hj : i < l.length) : cutW l i (i + 1) = [l.getD i 0] := by
  rw [cutW_snoc (Nat.le_refl _) hj]
  simp [cutW]
theorem cut_run {l : List UInt8} {i j : Nat} (hi : i ≤ j) (hj : j ≤ l.length) (W : World) : (Instr.slice 9 (.string ⟨l.toArray⟩) (some (.int .i64 (i : Int))) (some (.int .i64 (j : Int))) none).run Tryz.prog W = .ok (.string ⟨(cutW l i j).toArray⟩) W := by
  have hs : (⟨l.toArray⟩ : ByteArray).size = l.length := by simp [ByteArray.size]
  rw [run_slice_string W 9 _ _ _ _ _ Tryz.underlying9 (by omega) (by omega) (by rw [hs]; omega)]
  congr 2
  apply ByteArray.ext
  simp only [ByteArray.data_extract, Int.toNat_natCast]
  apply Array.ext'
  simp [cutW, List.extract_eq_take_drop]

/-- A bare word on its way. -/
def Bar (AN : Ans) (l : List UInt8) (ws : Ws) (i j : Nat) : Prop :=
  (j = i ∧ AN = runW .ahead ws i (l.drop i)) ∨ (i < j ∧ AN = runW (.bare (cutW l i j)) ws j (l.drop j))
theorem Bar.next {AN : Ans} {l : List UInt8} {ws : Ws} {i j : Nat} (h : Bar AN l ws i j) (hj : j < l.length) (hb : bareN (l.getD j 0).toNat = true) : Bar AN l ws i (j + 1) := by
  have b32 : (l.getD j 0).toNat ≠ 32 := by intro e; rw [e] at hb; simp [bareN] at hb
  have b34 : (l.getD j 0).toNat ≠ 34 := by intro e; rw [e] at hb; simp [bareN] at hb
  rcases h with ⟨rfl, h⟩ | ⟨hi, h⟩
  · refine Or.inr ⟨by omega, ?_⟩
    rw [h, runW_go hj (s' := .bare [l.getD j 0]) (ws' := ws) (by simp only [stepW]; rw [if_neg b32, if_neg b34, if_pos hb]), cutW_one hj]
  · refine Or.inr ⟨by omega, ?_⟩
    rw [h, runW_go hj (s' := .bare (cutW l i j ++ [l.getD j 0])) (ws' := ws) (by simp only [stepW]; rw [if_pos hb]), cutW_snoc (by omega) hj]
/-- Behind a word: a blank, or the end. -/
theorem behind {l : List UInt8} {ws : Ws} {k : Nat} (h : l.length ≤ k ∨ (l.getD k 0).toNat = 32) : runW .closed ws k (l.drop k) = runW .ahead ws k (l.drop k) := by
  by_cases hk : k < l.length
  · have h32 : (l.getD k 0).toNat = 32 := by rcases h with h | h <;> omega
    rw [runW_go hk (s' := .ahead) (ws' := ws) (by simp only [stepW]; rw [if_pos h32]), runW_go hk (s' := .ahead) (ws' := ws) (by simp only [stepW]; rw [if_pos h32])]
  · rw [runW_end (by omega), runW_end (by omega)]; rfl
theorem behind_bare {l : List UInt8} {ws : Ws} {x : List UInt8} {k : Nat} (h : l.length ≤ k ∨ (l.getD k 0).toNat = 32) : runW (.bare x) ws k (l.drop k) = runW .ahead (ws ++ [x]) k (l.drop k) := by
  by_cases hk : k < l.length
  · have h32 : (l.getD k 0).toNat = 32 := by rcases h with h | h <;> omega
    rw [runW_go hk (s' := .ahead) (ws' := ws ++ [x]) (by simp only [stepW]; rw [h32]; rfl), runW_go hk (s' := .ahead) (ws' := ws ++ [x]) (by simp only [stepW]; rw [if_pos h32])]
  · rw [runW_end (by omega), runW_end (by omega)]; rfl

set_option maxRecDepth 1000000 in
theorem rSplit_long {l : List UInt8} {cs : List Comp} {w : World} (h : All cs w) (hl : 8192 < l.length) (hl2 : l.length ≤ 140737488355328) :
    Calls Tryz.prog 103 #[.string ⟨l.toArray⟩] w (SplitPost .long cs) := by
  have hz : (⟨l.toArray⟩ : ByteArray).size = l.length := by simp [ByteArray.size]
  have A := hid (All.addNil (e := 9) h)
  clear h
  generalize ByteArray.mk l.toArray = S at *
  generalize l.length = n at *
  have hl' : (8192 : Int) < n := by omega
  go_enter Tryz.func103, Tryz.ntmps103
  go_wp2
  go_ret3
  exact ⟨_, rfl, A.out⟩

set_option maxHeartbeats 6400000 in
set_option maxRecDepth 1000000 in
theorem rSplit_short {l : List UInt8} {cs : List Comp} {w : World} (h : All cs w) (hl : l.length ≤ 8192) :
    Calls Tryz.prog 103 #[.string ⟨l.toArray⟩] w (SplitPost (runW .ahead [] 0 l) cs) := by
  have hz : (⟨l.toArray⟩ : ByteArray).size = l.length := by simp [ByteArray.size]
  have IX : Hid (∀ k, k < l.length → ∀ W, (Instr.index 9 (.string ⟨l.toArray⟩) (.int .i64 (k : Int))).run Tryz.prog W = .ok (.int .u8 ((l.getD k 0).toNat : Int)) W) := fun k hk W => idx_at hk W
  have CR : Hid (∀ i j : Nat, i ≤ j → j ≤ l.length → ∀ W, (Instr.slice 9 (.string ⟨l.toArray⟩) (some (.int .i64 (i : Int))) (some (.int .i64 (j : Int))) none).run Tryz.prog W = .ok (.string ⟨(cutW l i j).toArray⟩) W) := fun i j hi hj W => cut_run hi hj W
  have RQ : Hid (∀ (o : Nat) (ws : Ws) (ds : List Comp) (W : World), All ds W → o < l.length → Calls Tryz.prog 135 #[.string ⟨l.toArray⟩, .int .i64 (o : Int)] W (QPost (runW (.quote o []) ws (o + 1) (l.drop (o + 1))) l o ws ds)) := hid (fun o ws ds W hW ho => rquoted_any hW hl ho)
  have N := hid (All.addNil (e := 9) h)
  have R0 : Hid (runW .ahead [] 0 l = runW .ahead [] 0 (l.drop 0)) := hid (by simp)
  generalize hA : runW .ahead [] 0 l = AN at *
  clear hA h
  generalize ByteArray.mk l.toArray = S at *
  generalize hn : l.length = n at *
  have HN := hid hn
  clear hn
  have hl' : ¬ (8192 : Int) < n := by omega
  go_enter Tryz.func103, Tryz.ntmps103
  go_wp2
  go_loopw [5, 6] (fun ov iv wr => ∃ (i : Nat) (ws : Ws) (ao : Option Addr) (c : Nat), i ≤ n ∧ iv = .int .i64 (i : Int) ∧ ov = .slice ao ws.length c ∧ ws.length ≤ i ∧ Hid (All (ownC 9 (.slice ao ws.length c) (txW ws) :: cs) wr) ∧ Hid (AN = runW .ahead ws i (l.drop i))) (fun _ iv _ => n - (intOf iv).toNat)
  case atStart => exact ⟨0, [], none, 0, by omega, rfl, rfl, by simp, N, R0⟩
  case round =>
    obtain ⟨i, ws, ao, c, hi, rfl, rfl, hws, hA, hrun⟩ := hrel
    clear N R0
    by_cases hlt : i < n
    · have hlt' : (i : Int) < (n : Int) := by omega
      have ix := IX.out i hlt
      generalize hb : l.getD i 0 = b at ix
      have HB := hid hb
      clear hb
      by_cases h32 : b.toNat = 32
      · have bi : (b.toNat : Int) = 32 := by omega
        rw [bi] at ix
        have nx : Hid (AN = runW .ahead ws (i + 1) (l.drop (i + 1))) := hid (by rw [hrun.out]; exact runW_go (by rw [HN.out]; exact hlt) (by rw [HB.out]; simp [stepW, h32]))
        clear h32 bi
        generalize hnw : ws.length = nw at *
        have HNW := hid hnw
        clear hnw
        go_wp2
        go_roundw
        case rel => exact ⟨i + 1, ws, ao, c, by omega, by go_num, by rw [HNW.out], by rw [HNW.out]; omega, hid (by rw [HNW.out]; exact hA.out), nx⟩
        case measure => simp [intOf]; omega
      · have n32 : ((b.toNat : Int) == 32) = false := by simp; omega
        by_cases h34 : b.toNat = 34
        · have bi : (b.toNat : Int) = 34 := by omega
          rw [bi] at ix
          have C := hid (RQ.out i ws _ wr hA.out hlt)
          have e1 : Hid (AN = runW (.quote i []) ws (i + 1) (l.drop (i + 1))) := hid (by rw [hrun.out]; exact runW_go (by rw [HN.out]; exact hlt) (by rw [HB.out]; simp [stepW, h34]))
          rw [← e1.out] at C
          clear e1 hrun h32 h34 n32 bi
          generalize hnw : ws.length = nw at *
          have HNW := hid hnw
          clear hnw
          go_wp2_with (go_at_call 135; refine C.out.mono ?_; rintro e w1 ⟨x, k, er, rfl, A1, hc⟩; refine Hid.out ?_)
          refine hid ?_
          clear C hA
          rcases hc with ⟨rfl, hkn, hik, hAN⟩ | ⟨her, h1, h2, h3⟩
          · rw [HN.out] at hkn
            have HAN := hid hAN
            obtain ⟨ao1, c1, w2, hr, A2⟩ := app_txt (l := ws) A1 x (by rw [HNW.out]; omega)
            rw [HNW.out] at hr A2
            have R := hid hr
            have A3 := hid A2
            have EL := hid (show (ws ++ [x]).length = nw + 1 by rw [List.length_append, HNW.out]; rfl)
            clear hr A2 A1 hAN
            generalize hX : ByteArray.mk x.toArray = X at *
            clear hX
            by_cases hk : k < n
            · have hk' : (k : Int) < (n : Int) := by omega
              have ixk := IX.out k hk
              generalize hbk : l.getD k 0 = bk at ixk
              have HBK := hid hbk
              clear hbk
              by_cases hk32 : bk.toNat = 32
              · have bki : (bk.toNat : Int) = 32 := by omega
                rw [bki] at ixk
                have nxt : Hid (AN = runW .ahead (ws ++ [x]) k (l.drop k)) := hid (by rw [HAN.out]; exact behind (Or.inr (by rw [HBK.out]; exact hk32)))
                clear hk32 bki
                go_wp2_with (at_builtin; refine wpList_append_run rfl _ _ 43 rfl _ _ _ _ rfl rfl R.out ?_)
                go_roundw
                case rel => exact ⟨k, ws ++ [x], ao1, c1, by omega, rfl, by rw [EL.out], by rw [EL.out]; omega, hid (by rw [EL.out]; exact A3.out), nxt⟩
                case measure => simp [intOf]; omega
              · have bki : ((bk.toNat : Int) != 32) = true := by simp; omega
                have fin : Hid (AN = .byte k) := hid (by rw [HAN.out]; exact runW_bad (by rw [HN.out]; exact hk) (by rw [HBK.out]; simp [stepW, hk32]))
                have D := hid (All.addNil (e := 9) A3.out.tail)
                clear hk32
                go_wp2_with (at_builtin; refine wpList_append_run rfl _ _ 43 rfl _ _ _ _ rfl rfl R.out ?_)
                go_ret3
                exact ⟨_, by rw [fin.out]; rfl, by rw [fin.out]; exact D.out⟩
            · have hk' : ¬ (k : Int) < (n : Int) := by omega
              have nxt : Hid (AN = runW .ahead (ws ++ [x]) k (l.drop k)) := hid (by rw [HAN.out]; exact behind (Or.inl (by rw [HN.out]; omega)))
              go_wp2_with (at_builtin; refine wpList_append_run rfl _ _ 43 rfl _ _ _ _ rfl rfl R.out ?_)
              go_roundw
              case rel => exact ⟨k, ws ++ [x], ao1, c1, by omega, rfl, by rw [EL.out], by rw [EL.out]; omega, hid (by rw [EL.out]; exact A3.out), nxt⟩
              case measure => simp [intOf]; omega
          · have hne : ((er : Int) != 0) = true := by simp; omega
            have D := hid (All.addNil (e := 9) A1.tail)
            have H1 := hid h1
            have H2 := hid h2
            have H3 := hid h3
            clear h1 h2 h3 her A1
            go_wp2
            go_ret3
            exact ⟨_, by rw [H1.out, H2.out]; rfl, by rw [H3.out]; exact D.out⟩
        · have n34 : ((b.toNat : Int) == 34) = false := by simp; omega
          have inn : Hid (Bar AN l ws i i) := hid (Or.inl ⟨rfl, hrun.out⟩)
          have fin0 : Hid (bareN b.toNat = false → AN = .byte i) := hid (fun hx => by rw [hrun.out]; exact runW_bad (by rw [HN.out]; exact hlt) (by rw [HB.out]; simp only [stepW]; rw [if_neg h32, if_neg h34, if_neg (by rw [hx]; simp)]))
          clear hrun h34
          generalize hnw : ws.length = nw at *
          have HNW := hid hnw
          clear hnw
          go_wp2
          go_loopw [6] (fun jv wr2 => ∃ j : Nat, i ≤ j ∧ j ≤ n ∧ jv = .int .i64 (j : Int) ∧ Hid (Bar AN l ws i j) ∧ wr2 = wr) (fun jv _ => n - (intOf jv).toNat)
          case atStart => exact ⟨i, Nat.le_refl _, hi, rfl, inn, rfl⟩
          case round =>
            obtain ⟨j, hij, hjn, rfl, hbar, rfl⟩ := hrel
            clear inn ix n32 n34
            by_cases hjl : j < n
            · have hj' : (j : Int) < (n : Int) := by omega
              have ixj := IX.out j hjl
              have BC := hid (rbare_any (l.getD j 0) wr)
              cases hx : bareN (l.getD j 0).toNat with
              | true =>
                have nb := hid (hbar.out.next (by rw [HN.out]; exact hjl) hx)
                generalize hbj : l.getD j 0 = bj at *
                clear hbj
                generalize (bj.toNat : Int) = bi at *
                go_wp2_with (go_at_call 136; refine BC.out.mono ?_; rintro e w1 ⟨rfl, rfl⟩; rw [hx])
                go_roundw
                case rel => exact ⟨j + 1, by omega, by omega, by go_num, nb, trivial⟩
                case measure => simp [intOf]; omega
              | false =>
                by_cases hji : i < j
                · have hji' : (i : Int) < (j : Int) := by omega
                  have hAN : Hid (AN = runW (.bare (cutW l i j)) ws j (l.drop j)) := hid (by
                    rcases hbar.out with ⟨e, _⟩ | ⟨_, h⟩
                    · omega
                    · exact h)
                  have cr := CR.out i j hij hjn
                  obtain ⟨ao1, c1, w2, hr, A2⟩ := app_txt (l := ws) hA.out (cutW l i j) (by rw [HNW.out]; omega)
                  rw [HNW.out] at hr A2
                  have R := hid hr
                  have A3 := hid A2
                  have EL := hid (show (ws ++ [cutW l i j]).length = nw + 1 by rw [List.length_append, HNW.out]; rfl)
                  clear hr A2
                  by_cases hk32 : (l.getD j 0).toNat = 32
                  · have nxt : Hid (AN = runW .ahead (ws ++ [cutW l i j]) j (l.drop j)) := hid (by rw [hAN.out]; exact behind_bare (Or.inr hk32))
                    have bji : ((l.getD j 0).toNat : Int) = 32 := by omega
                    rw [bji] at ixj BC
                    generalize hX : ByteArray.mk (cutW l i j).toArray = X at *
                    generalize hbj : l.getD j 0 = bj at *
                    clear hX hbj bji hk32
                    go_wp2_with (first | (go_at_call 136; refine BC.out.mono ?_; rintro e w1 ⟨rfl, rfl⟩; rw [hx]) | (at_builtin; refine wpList_append_run rfl _ _ 43 rfl _ _ _ _ rfl rfl R.out ?_))
                    go_roundw
                    case rel => exact ⟨j, ws ++ [cutW l i j], ao1, c1, by omega, rfl, by rw [EL.out], by rw [EL.out]; omega, hid (by rw [EL.out]; exact A3.out), nxt⟩
                    case measure => simp [intOf]; omega
                  · have fin : Hid (AN = .byte j) := hid (by rw [hAN.out]; exact runW_bad (by rw [HN.out]; exact hjl) (by simp only [stepW]; rw [hx, if_neg (by simp), if_neg hk32]))
                    have bki : (((l.getD j 0).toNat : Int) != 32) = true := by simp only [bne_iff_ne, ne_eq]; omega
                    have D := hid (All.addNil (e := 9) A3.out.tail)
                    generalize hX : ByteArray.mk (cutW l i j).toArray = X at *
                    generalize hbj : l.getD j 0 = bj at *
                    clear hX hbj hk32
                    go_wp2_with (first | (go_at_call 136; refine BC.out.mono ?_; rintro e w1 ⟨rfl, rfl⟩; rw [hx]) | (at_builtin; refine wpList_append_run rfl _ _ 43 rfl _ _ _ _ rfl rfl R.out ?_))
                    go_ret3
                    exact ⟨_, by rw [fin.out]; rfl, by rw [fin.out]; exact D.out⟩
                · have ej : j = i := by omega
                  have fin : Hid (AN = .byte j) := hid (by rw [ej] at hx ⊢; rw [HB.out] at hx; exact fin0.out hx)
                  have hji' : ¬ (i : Int) < (j : Int) := by omega
                  have hne : (l.getD j 0).toNat ≠ 32 := by rw [ej, HB.out]; exact h32
                  have bki : (((l.getD j 0).toNat : Int) != 32) = true := by simp only [bne_iff_ne, ne_eq]; omega
                  have D := hid (All.addNil (e := 9) hA.out.tail)
                  generalize hbj : l.getD j 0 = bj at *
                  clear hbj hne ej fin0
                  go_wp2_with (go_at_call 136; refine BC.out.mono ?_; rintro e w1 ⟨rfl, rfl⟩; rw [hx])
                  go_ret3
                  exact ⟨_, by rw [fin.out]; rfl, by rw [fin.out]; exact D.out⟩
            · have hj' : ¬ (j : Int) < (n : Int) := by omega
              have hji' : (i : Int) < (j : Int) := by omega
              have hAN : Hid (AN = runW (.bare (cutW l i j)) ws j (l.drop j)) := hid (by
                rcases hbar.out with ⟨e, _⟩ | ⟨_, h⟩
                · omega
                · exact h)
              have cr := CR.out i j hij hjn
              obtain ⟨ao1, c1, w2, hr, A2⟩ := app_txt (l := ws) hA.out (cutW l i j) (by rw [HNW.out]; omega)
              rw [HNW.out] at hr A2
              have R := hid hr
              have A3 := hid A2
              have EL := hid (show (ws ++ [cutW l i j]).length = nw + 1 by rw [List.length_append, HNW.out]; rfl)
              have nxt : Hid (AN = runW .ahead (ws ++ [cutW l i j]) j (l.drop j)) := hid (by rw [hAN.out]; exact behind_bare (Or.inl (by rw [HN.out]; omega)))
              clear hr A2
              generalize hX : ByteArray.mk (cutW l i j).toArray = X at *
              clear hX
              go_wp2_with (at_builtin; refine wpList_append_run rfl _ _ 43 rfl _ _ _ _ rfl rfl R.out ?_)
              go_roundw
              case rel => exact ⟨j, ws ++ [cutW l i j], ao1, c1, by omega, rfl, by rw [EL.out], by rw [EL.out]; omega, hid (by rw [EL.out]; exact A3.out), nxt⟩
              case measure => simp [intOf]; omega
    · have hlt' : ¬ (i : Int) < (n : Int) := by omega
      have fin : Hid (AN = .ok ws) := hid (by rw [hrun.out, runW_end (by rw [HN.out]; omega)]; rfl)
      go_wp2
      go_ret3
      exact ⟨_, by rw [fin.out]; rfl, by rw [fin.out]; exact hA.out⟩
end Go.Proofs.YtdhkdniddjnigaaGreatDoor

namespace Go.Proofs.YtdhkdniddjnigaaGreatDoor
open Go.RowKit
set_option linter.unusedVariables false

theorem Split_any {l : List UInt8} {cs : List Comp} {w : World} (h : All cs w) (hl : l.length ≤ 140737488355328) : Calls Tryz.prog 121 #[.string ⟨l.toArray⟩] w (SplitPost (splitW l) cs) := by
  unfold splitW
  by_cases h8 : 8192 < l.length
  · rw [if_pos h8]; exact Split_long h h8 hl
  · rw [if_neg h8]; exact Split_short h (by omega)
theorem rSplit_any {l : List UInt8} {cs : List Comp} {w : World} (h : All cs w) (hl : l.length ≤ 140737488355328) : Calls Tryz.prog 103 #[.string ⟨l.toArray⟩] w (SplitPost (splitW l) cs) := by
  unfold splitW
  by_cases h8 : 8192 < l.length
  · rw [if_pos h8]; exact rSplit_long h h8 hl
  · rw [if_neg h8]; exact rSplit_short h (by omega)
theorem finW_size (s : St) (ws : Ws) (k : Nat) : (finW s ws k).ws.length ≤ s.held + wsz ws := by
  cases s <;> simp [finW, Ans.ws, St.held, wsz] <;> omega
theorem runW_size : ∀ (t : List UInt8) (s : St) (ws : Ws) (k : Nat), (runW s ws k t).ws.length ≤ s.held + wsz ws + 2 * t.length
  | [], s, ws, k => by rw [runW]; exact Nat.le_trans (finW_size s ws k) (by simp)
  | b :: t, s, ws, k => by
    rw [runW]
    cases hs : stepW s ws k b with
    | go s' ws' =>
      simp only
      have h1 := runW_size t s' ws' (k + 1)
      have h2 := stepW_held hs
      simp only [List.length_cons]
      omega
    | bad j => simp [Ans.ws]
theorem splitW_size (l : List UInt8) : (splitW l).ws.length ≤ 16384 := by
  unfold splitW
  by_cases h8 : 8192 < l.length
  · rw [if_pos h8]; simp [Ans.ws]
  · rw [if_neg h8]
    have := runW_size l .ahead [] 0
    simp only [St.held, wsz, List.length_nil, List.map_nil, List.sum_nil] at this
    omega

end Go.Proofs.YtdhkdniddjnigaaGreatDoor

namespace Go.Proofs.YtdhkdniddjnigaaGreatDoor
set_option linter.unusedVariables false

/-- A digit of a byte's two. -/
def hexD (n : Nat) : UInt8 := if n < 10 then UInt8.ofNat (48 + n) else UInt8.ofNat (87 + n)
theorem hexD_nat {n : Nat} (h : n < 16) : (hexD n).toNat = if n < 10 then 48 + n else 87 + n := by
  unfold hexD
  split <;> simp <;> omega
theorem hexN_hexD {n : Nat} (h : n < 16) : hexN (hexD n).toNat = some n := by
  have hh : ∀ a : Fin 16, hexN (hexD a.val).toNat = some a.val := by decide
  exact hh ⟨n, h⟩
theorem hexD_hexN {b : UInt8} {d : Nat} (h : hexN b.toNat = some d) : hexD d = b := by
  apply UInt8.toNat_inj.1
  have hd := hexN_lt h
  rw [hexD_nat hd]
  unfold hexN at h
  split at h
  · simp only [Option.some.injEq] at h; subst h; rw [if_pos (by omega)]; omega
  · split at h
    · simp only [Option.some.injEq] at h; subst h; rw [if_neg (by omega)]; omega
    · simp at h
/-- A byte within quotes, as it is written. -/
def escB (b : UInt8) : List UInt8 := if prnN b.toNat = true then (if b.toNat = 34 ∨ b.toNat = 92 then [92, b] else [b]) else [92, 120, hexD (b.toNat / 16), hexD (b.toNat % 16)]
def escW (x : List UInt8) : List UInt8 := x.flatMap escB
theorem escW_snoc (x : List UInt8) (b : UInt8) : escW (x ++ [b]) = escW x ++ escB b := by simp [escW]
/-- A word as it is written. -/
def wrtW (x : List UInt8) : List UInt8 := if isBareW x = true then x else 34 :: (escW x ++ [34])
def tailW (ws : Ws) : List UInt8 := ws.flatMap fun x => 32 :: wrtW x
/-- A line of words. -/
def joinW : Ws → List UInt8
  | [] => []
  | x :: r => wrtW x ++ tailW r
/-- What stands ahead of the next word. -/
def preW (ws : Ws) : List UInt8 := if ws = [] then [] else joinW ws ++ [32]
theorem joinW_snoc (ws : Ws) (x : List UInt8) : joinW (ws ++ [x]) = preW ws ++ wrtW x := by
  cases ws with
  | nil => simp [joinW, preW, tailW]
  | cons a r => simp [joinW, preW, tailW]

theorem runW_cons {s s' : St} {ws ws' : Ws} {k : Nat} {b : UInt8} {t : List UInt8} (h : stepW s ws k b = .go s' ws') : runW s ws k (b :: t) = runW s' ws' (k + 1) t := by rw [runW, h]

theorem run_bare : ∀ (r a t : List UInt8) (ws : Ws) (k : Nat), (∀ b ∈ r, bareN b.toNat = true) → runW (.bare a) ws k (r ++ t) = runW (.bare (a ++ r)) ws (k + r.length) t
  | [], a, t, ws, k, h => by simp
  | b :: r, a, t, ws, k, h => by
    rw [List.cons_append, runW_cons (s' := .bare (a ++ [b])) (ws' := ws) (by simp only [stepW]; rw [if_pos (h b (by simp))]), run_bare r _ _ _ _ (fun c hc => h c (by simp [hc]))]
    simp only [List.append_assoc, List.singleton_append, List.length_cons]
    congr 1
    omega

theorem n_of (n : Nat) (h : n < 256) : (UInt8.ofNat n).toNat = n := by simp; omega

theorem run_byte (b : UInt8) (o : Nat) (a t : List UInt8) (ws : Ws) (k : Nat) : runW (.quote o a) ws k (escB b ++ t) = runW (.quote o (a ++ [b])) ws (k + (escB b).length) t := by
  unfold escB
  by_cases hp : prnN b.toNat = true
  · rw [if_pos hp]
    by_cases hq : b.toNat = 34 ∨ b.toNat = 92
    · rw [if_pos hq, List.cons_append, runW_cons (s' := .esc o a k) (ws' := ws) (by simp [stepW]), List.cons_append, runW_cons (s' := .quote o (a ++ [b])) (ws' := ws) (by simp only [stepW]; rw [if_neg (by omega), if_pos hq])]
      rfl
    · rw [if_neg hq, List.cons_append, runW_cons (s' := .quote o (a ++ [b])) (ws' := ws) (by simp only [stepW]; rw [if_neg (by omega), if_neg (by omega), if_pos hp])]
      rfl
  · rw [if_neg hp, List.cons_append, runW_cons (s' := .esc o a k) (ws' := ws) (by simp [stepW]), List.cons_append, runW_cons (s' := .high o a k) (ws' := ws) (by simp [stepW])]
    have hb := b.toNat_lt
    rw [List.cons_append, runW_cons (s' := .low o a k (b.toNat / 16)) (ws' := ws) (by simp only [stepW]; rw [hexN_hexD (by omega)]), List.cons_append]
    have e : 16 * (b.toNat / 16) + b.toNat % 16 = b.toNat := by omega
    rw [runW_cons (s' := .quote o (a ++ [b])) (ws' := ws) (by
      simp only [stepW]
      rw [hexN_hexD (by omega)]
      simp only
      rw [e, if_neg hp]
      simp)]
    rfl
theorem run_esc : ∀ (x a t : List UInt8) (o : Nat) (ws : Ws) (k : Nat), runW (.quote o a) ws k (escW x ++ t) = runW (.quote o (a ++ x)) ws (k + (escW x).length) t
  | [], a, t, o, ws, k => by simp [escW]
  | b :: x, a, t, o, ws, k => by
    have e : escW (b :: x) = escB b ++ escW x := by simp [escW]
    rw [e, List.append_assoc, run_byte, run_esc x]
    simp only [List.append_assoc, List.singleton_append, List.length_append]
    congr 1
    omega
theorem bareW_all {x : List UInt8} (h : isBareW x = true) : x ≠ [] ∧ ∀ b ∈ x, bareN b.toNat = true := of_decide_eq_true h
theorem bare_no {b : UInt8} (h : bareN b.toNat = true) : b.toNat ≠ 32 ∧ b.toNat ≠ 34 ∧ b.toNat ≠ 92 := by
  refine ⟨fun e => ?_, fun e => ?_, fun e => ?_⟩ <;> (rw [e] at h; simp [bareN] at h)
/-- A written word is read. -/
theorem run_word (x : List UInt8) (t : List UInt8) (ws : Ws) (k : Nat) (h : t = [] ∨ ∃ t', t = 32 :: t') :
    runW .ahead ws k (wrtW x ++ t) = runW .closed (ws ++ [x]) (k + (wrtW x).length) t := by
  unfold wrtW
  cases hx : isBareW x with
  | true =>
    rw [if_pos rfl]
    obtain ⟨hne, hall⟩ := bareW_all hx
    cases x with
    | nil => exact absurd rfl hne
    | cons b r =>
      have hb := hall b (by simp)
      obtain ⟨n1, n2, n3⟩ := bare_no hb
      rw [List.cons_append, runW_cons (s' := .bare [b]) (ws' := ws) (by simp only [stepW]; rw [if_neg n1, if_neg n2, if_pos hb]), run_bare r _ _ _ _ (fun c hc => hall c (by simp [hc]))]
      have e : k + 1 + r.length = k + (b :: r).length := by simp; omega
      rw [e, List.singleton_append]
      rcases h with rfl | ⟨t', rfl⟩
      · rfl
      · rw [runW_cons (s' := .ahead) (ws' := ws ++ [b :: r]) (by simp [stepW, bareN]), runW_cons (s' := .ahead) (ws' := ws ++ [b :: r]) (by simp [stepW])]
  | false =>
    rw [if_neg (by simp), List.cons_append, runW_cons (s' := .quote k []) (ws' := ws) (by simp [stepW]), List.append_assoc, run_esc, List.nil_append, List.singleton_append, runW_cons (s' := .closed) (ws' := ws ++ [x]) (by simp [stepW, hx])]
    congr 1
    simp
    omega
theorem run_tail : ∀ (r : Ws) (ws : Ws) (k : Nat), runW .closed ws k (tailW r) = .ok (ws ++ r)
  | [], ws, k => by simp [tailW, runW, finW]
  | x :: r, ws, k => by
    have e : tailW (x :: r) = 32 :: (wrtW x ++ tailW r) := by simp [tailW]
    rw [e, runW_cons (s' := .ahead) (ws' := ws) (by simp [stepW]), run_word, run_tail r]
    · simp
    · cases r with
      | nil => exact Or.inl rfl
      | cons y r => exact Or.inr ⟨_, by simp [tailW]; rfl⟩
/-- Split of Join. -/
theorem run_join (ws : Ws) : runW .ahead [] 0 (joinW ws) = .ok ws := by
  cases ws with
  | nil => rfl
  | cons x r =>
    rw [joinW, run_word, run_tail]
    · simp
    · cases r with
      | nil => exact Or.inl rfl
      | cons y r => exact Or.inr ⟨_, by simp [tailW]; rfl⟩
end Go.Proofs.YtdhkdniddjnigaaGreatDoor

/- strings.Builder at this program: which number is which. -/
namespace Go.Proofs
open Go.Shelf
def Tryz.lays169_ren : Go.Shelf.Ren := ⟨fun | 169 => 134 | n => n, fun | 70 => 186 | 9 => 9 | 0 => 0 | 72 => 188 | 37 => 40 | 127 => 230 | 3 => 3 | 5 => 5 | n => n, fun | n => n⟩
theorem Tryz.lays169 : Go.Proofs.Lays.n169 Tryz.prog Tryz.lays169_ren := {
  mixed := by kernel_rfl
  f169 := Tryz.func134.trans (congrArg some (by kernel_rfl))
  t0 := Tryz.underlying0
  a0 := Tryz.isAgg0
  z0 := Tryz.sizeOf0
  v0 := Tryz.zeroValue0
  t3 := Tryz.underlying3
  a3 := Tryz.isAgg3
  z3 := Tryz.sizeOf3
  v3 := Tryz.zeroValue3
  t9 := Tryz.underlying9
  a9 := Tryz.isAgg9
  z9 := Tryz.sizeOf9
  v9 := Tryz.zeroValue9
  t37 := Tryz.underlying40
  a37 := Tryz.isAgg40
  z37 := Tryz.sizeOf40
  v37 := Tryz.zeroValue40
  t70 := Tryz.underlying186
  a70 := Tryz.isAgg186
  z70 := Tryz.sizeOf186
  v70 := Tryz.zeroValue186
  t72 := Tryz.underlying188
  a72 := Tryz.isAgg188
  z72 := Tryz.sizeOf188
  v72 := Tryz.zeroValue188
  t127 := Tryz.underlying230
  a127 := Tryz.isAgg230
  z127 := Tryz.sizeOf230
  v127 := Tryz.zeroValue230 }
end Go.Proofs

namespace Go.Proofs.YtdhkdniddjnigaaGreatDoor
open Go.RowKit
set_option linter.unusedVariables false

/-- A builder in block B, with all that it has from there on. -/
abbrev Bd (B : Nat) (l : List UInt8) (w : World) : Prop := Lib.IsBuilder 188 5 B B (cellsB l) w
theorem bd_lt {B : Nat} {p : Value} {l : List Value} {w : World} (h : Lib.BuilderAt 188 5 B B p l w) : B < w.heap.size := World.block_lt_of_cell? w _ h.cell0
theorem Bd.lt {B : Nat} {l : List UInt8} {w : World} (h : Bd B l w) : B < w.heap.size := h.elim bd_lt bd_lt
theorem Tryz.size45 : (Tryz.prog.info? 188).map (·.size) = some 2 := by kernel_rfl
theorem Tryz.lies45 : liesAt Tryz.prog Tryz.prog.depth 188 (2 / Tryz.prog.cellsOf 188) 0 188 1 = true := by kernel_rfl

set_option maxHeartbeats 1000000 in
set_option maxRecDepth 1000000 in
/-- copyCheck: from then on the builder knows its place. -/
theorem bcheck_any {B : Nat} {l : List UInt8} {w : World} (h : Bd B l w) :
    Calls Tryz.prog 177 #[ptr B] w fun e w' => e = .returned (.tuple #[]) ∧ Lib.BuilderAt 188 5 B B (ptr B) (cellsB l) w' ∧ Below B w w' := by
  obtain ⟨j, hj, hjs⟩ := Option.map_eq_some_iff.1 Tryz.size45
  rcases h with h | h
  · have s0 := h.cell0
    have hsh := h.shape
    have f0 := h.frozen0
    have U := hid (h.used (ptr B))
    have hB := hid h.1
    clear h
    go_enter Tryz.func177, Tryz.ntmps177
    go_wp2
    rw [Lib.run_to_unsafe w ⟨B, 0, none⟩ Tryz.underlying186 Tryz.underlying251 hj (by rw [hjs]; decide) hsh (Nat.zero_lt_succ 1)]
    simp only [Result.andThen]
    rw [Oper.upon_value]
    go_wp2
    rw [run_callFunc_extern Tryz.func205 (by kernel_rfl) (by kernel_rfl) (by kernel_rfl) (e := Extern.AbiNoEscape.same) (by kernel_rfl), Lib.run_noEscape]
    simp only [Result.andThen]
    rw [Oper.upon_value]
    go_wp2
    rw [Lib.run_from_unsafe w ⟨B, 0, none⟩ Tryz.underlying251 Tryz.underlying186 hj hsh Tryz.lies45]
    simp only [Result.andThen]
    rw [Oper.upon_value]
    go_wp2
    go_end0
    exact ⟨rfl, U.out, (Below.refl B w).setCell (p := ⟨B, 0, none⟩) hB.out _⟩
  · have s0 := h.cell0
    have U := hid h
    clear h
    go_enter Tryz.func177, Tryz.ntmps177
    go_wp2
    rw [Lib.run_neq_ptr_same w _ Tryz.underlying186 hj]
    go_wp2
    go_end0
    exact ⟨rfl, U.out, Below.refl B _⟩

/-- Where a builder that knows its place has its bytes. -/
theorem bd_open {B : Nat} {l : List UInt8} {w : World} (h : Lib.BuilderAt 188 5 B B (ptr B) (cellsB l) w) : ∃ ao c, w.heap[B]? = some (.cells #[ptr B, .slice ao l.length c] 188 (0, 0)) ∧ w.ownsRow B 5 1 (.slice ao l.length c) (cellsB l).length (cellsB l) ∧ (Value.slice ao l.length c).ownBlock ≠ some B := by
  obtain ⟨hB, v, hbk, hown, hne⟩ := h
  obtain ⟨ao, c, rfl⟩ := owns_form hown
  rw [cellsB_length] at *
  exact ⟨ao, c, hbk, hown, hne⟩

/-- Bytes laid behind a builder's: what the store leaves. -/
theorem bd_put {B : Nat} {l m : List UInt8} {w W w2 : World} {v v' : Value} (hB0 : Below B w W) (hlt : B < w.heap.size) (hbk : W.heap[B]? = some (.cells #[ptr B, v] 188 (0, 0))) (hown0 : W.ownsRow B 5 1 v (cellsB l).length (cellsB l)) (hne : v.ownBlock ≠ some B) (hown : w2.ownsRow B 5 1 v' (cellsB m).length (cellsB m)) (hg : W.grownBy w2 v.ownBlock) :
    (w2.heap[B]? = some (.cells #[ptr B, v] 188 (0, 0))) ∧ Bd B m (w2.setCell ⟨B, 1, none⟩ v') ∧ Below B w (w2.setCell ⟨B, 1, none⟩ v') := by
  have hsz := hB0.size
  have hb2 : w2.heap[B]? = some (.cells #[ptr B, v] 188 (0, 0)) := by
    rw [hg.block B (by omega) (fun e => hne e.symm)]
    exact hbk
  refine ⟨hb2, Or.inr ?_, ?_⟩
  · exact Lib.BuilderAt.put (T := 188) (e := 5) (Nat.le_refl _) hb2 (bs' := cellsB m) hown (by decide)
  · exact (hB0.grown hg (by omega) (fun k hk => (hown0.lt k hk).1)).setCell (p := ⟨B, 1, none⟩) (Nat.le_refl _) _

set_option maxHeartbeats 1000000 in
set_option maxRecDepth 1000000 in
theorem WriteByte_any {B : Nat} {l : List UInt8} {b : UInt8} {w : World} (h : Bd B l w) (hl : l.length + 1 ≤ 140737488355328) :
    Calls Tryz.prog 132 #[ptr B, .int .u8 (b.toNat : Int)] w fun e w' => e = .returned .nilIface ∧ Bd B (l ++ [b]) w' ∧ Below B w w' := by
  obtain ⟨i1, hi1, hz0, hz1, hz2⟩ := info_parts Tryz.info5
  have C := hid (bcheck_any h)
  have hBw := h.lt
  have key : Hid (∀ w1, Lib.BuilderAt 188 5 B B (ptr B) (cellsB l) w1 → Below B w w1 → ∃ ao c ao' c' w2, w1.cell? ⟨B, 1, none⟩ = some (.slice ao l.length c) ∧ (Builtin.append_ #[40, 40] 40 #[.slice ao l.length c, .slice (some ⟨w1.heap.size, 0, none⟩) 1 1]).run Tryz.prog (w1.alloc (.cells #[.int .u8 (b.toNat : Int)] 5)) = .ok (.slice ao' (l.length + 1) c') w2 ∧ w2.cell? ⟨B, 1, none⟩ = some (.slice ao l.length c) ∧ w2.frozen? ⟨B, 1, none⟩ = false ∧ Bd B (l ++ [b]) (w2.setCell ⟨B, 1, none⟩ (.slice ao' (l.length + 1) c')) ∧ Below B w (w2.setCell ⟨B, 1, none⟩ (.slice ao' (l.length + 1) c'))) := hid (by
    intro w1 h1 hb1
    have hlt := bd_lt h1
    obtain ⟨ao, c, hbk, hown, hne⟩ := bd_open h1
    have hown1 := hown.alloc (.cells #[.int .u8 (b.toNat : Int)] 5)
    obtain ⟨v', w2, hr, h2, h3, h4⟩ := run_append_own (P := Tryz.prog) (w1.alloc (.cells #[.int .u8 (b.toNat : Int)] 5)) B 40 40 5 i1 (.int .u8 0) 1 1 Tryz.underlying40 hi1 hz0 hz1 hz2 rfl (by decide) _ _ _ hown1 ⟨w1.heap.size, 0, none⟩ 1 1 [.int .u8 (b.toNat : Int)] (by simp) (one_new (by rw [cell_at (heap_alloc_new w1 _)]; rfl)) (one_cell rfl) (by rw [cellsB_length]; unfold maxLen; omega) (by rw [cellsB_length]; omega) (by simp; omega)
    obtain ⟨ao', c', rfl⟩ := owns_form h2
    rw [cellsB_length] at hr
    have hb0 : (w1.alloc (.cells #[.int .u8 (b.toNat : Int)] 5)).heap[B]? = some (.cells #[ptr B, .slice ao l.length c] 188 (0, 0)) := by rw [Lib.alloc_old w1 _ B hlt]; exact hbk
    obtain ⟨k1, k2, k3⟩ := bd_put (m := l ++ [b]) (hb1.alloc (by omega) _) hBw hb0 hown1 hne (by rw [cellsB_append, List.length_append]; exact h2) h3
    rw [cellsB_length] at k2 k3
    exact ⟨ao, c, ao', c', w2, by rw [Lib.cell_of_heap hbk]; rfl, hr, by rw [Lib.cell_of_heap k1]; rfl, Lib.frozen_of_heap k1 1, k2, k3⟩)
  generalize hn : l.length = n at *
  clear hn h
  generalize (b.toNat : Int) = bi at *
  go_enter Tryz.func132, Tryz.ntmps132
  go_wp2_with (first | (go_at_call 177; refine C.out.mono ?_; rintro e w1 ⟨rfl, h1, hb1⟩; have hk := key.out w1 h1 hb1; obtain ⟨ao, c, ao', c', w2, s1, hr, t1, f1, A2, B2⟩ := hk; have R := hid hr; have A3 := hid A2; have B3 := hid B2; clear hr A2 B2 h1 hb1) | (at_builtin; refine wpList_append_run rfl _ _ 40 rfl _ _ _ _ rfl rfl R.out ?_))
  go_ret
  exact ⟨rfl, A3.out, B3.out⟩

theorem wpList_append_run2 {P : Program} {w : World} {ops : Array Oper} {rest : List Oper} {o : Oper} {a : Act} {Q : Exit → Act → World → Prop} (hgd : o.guard = none) (s x : Operand) (t u : TypeId)
    (ho : o.op = .call { callee := .builtin .append, args := #[s, x], argTypes := #[t, u] }) (v1 v2 v' : Value) (w' : World) (hs : a.eval s = v1) (hx : a.eval x = v2)
    (hr : (Builtin.append_ #[t, u] o.type #[v1, v2]).run P w = .ok v' w') (h : wpList P ops Q rest (a.put o.dst v') w') : wpList P ops Q (o :: rest) a w := by
  refine wpList_plain hgd fun K hK => ?_
  unfold Oper.wp execOp
  simp only [ho, resolve, invoke, builtin, Sem.run_bind, Sem.run_pure, Result.andThen_ok, List.map_toArray, List.map_cons, List.map_nil, hs, hx, hr]
  exact hK _ _ h

theorem strCells_eq (x : List UInt8) : Lib.strCells ⟨x.toArray⟩ = cellsB x := by
  simp [Lib.strCells, cellsB]

set_option maxHeartbeats 1000000 in
set_option maxRecDepth 1000000 in
theorem WriteString_any {B : Nat} {l x : List UInt8} {w : World} (h : Bd B l w) (hl : l.length + x.length ≤ 140737488355328) :
    Calls Tryz.prog 179 #[ptr B, .string ⟨x.toArray⟩] w fun e w' => e = .returned (.tuple #[.int .i64 (x.length : Int), .nilIface]) ∧ Bd B (l ++ x) w' ∧ Below B w w' := by
  obtain ⟨i1, hi1, hz0, hz1, hz2⟩ := info_parts Tryz.info5
  have C := hid (bcheck_any h)
  have hBw := h.lt
  have hz : (⟨x.toArray⟩ : ByteArray).size = x.length := by simp [ByteArray.size]
  have key : Hid (∀ w1, Lib.BuilderAt 188 5 B B (ptr B) (cellsB l) w1 → Below B w w1 → ∃ ao c ao' c' w2, w1.cell? ⟨B, 1, none⟩ = some (.slice ao l.length c) ∧ (Builtin.append_ #[40, 9] 40 #[.slice ao l.length c, .string ⟨x.toArray⟩]).run Tryz.prog w1 = .ok (.slice ao' (l.length + x.length) c') w2 ∧ w2.cell? ⟨B, 1, none⟩ = some (.slice ao l.length c) ∧ w2.frozen? ⟨B, 1, none⟩ = false ∧ Bd B (l ++ x) (w2.setCell ⟨B, 1, none⟩ (.slice ao' (l.length + x.length) c')) ∧ Below B w (w2.setCell ⟨B, 1, none⟩ (.slice ao' (l.length + x.length) c'))) := hid (by
    intro w1 h1 hb1
    have hlt := bd_lt h1
    obtain ⟨ao, c, hbk, hown, hne⟩ := bd_open h1
    obtain ⟨v', w2, hr, h2, h3, h4⟩ := Lib.run_append_own_string (P := Tryz.prog) w1 B 40 9 40 5 i1 Tryz.underlying40 Tryz.underlying9 hi1 hz0 hz1 hz2 _ _ _ hown ⟨x.toArray⟩ (by rw [cellsB_length, hz]; unfold maxLen; omega) (by rw [cellsB_length, hz]; omega) (by omega)
    obtain ⟨ao', c', rfl⟩ := owns_form h2
    rw [cellsB_length, hz] at hr
    obtain ⟨k1, k2, k3⟩ := bd_put (m := l ++ x) hb1 hBw hbk hown hne (by rw [cellsB_append, List.length_append, cellsB_length x, ← hz, ← strCells_eq]; exact h2) h3
    rw [cellsB_length, hz] at k2 k3
    exact ⟨ao, c, ao', c', w2, by rw [Lib.cell_of_heap hbk]; rfl, hr, by rw [Lib.cell_of_heap k1]; rfl, Lib.frozen_of_heap k1 1, k2, k3⟩)
  generalize hn : l.length = n at *
  clear hn h
  generalize ByteArray.mk x.toArray = X at *
  generalize hm : x.length = m at *
  clear hm
  go_enter Tryz.func179, Tryz.ntmps179
  go_wp2_with (first | (go_at_call 177; refine C.out.mono ?_; rintro e w1 ⟨rfl, h1, hb1⟩; have hk := key.out w1 h1 hb1; obtain ⟨ao, c, ao', c', w2, s1, hr, t1, f1, A2, B2⟩ := hk; have R := hid hr; have A3 := hid A2; have B3 := hid B2; clear hr A2 B2 h1 hb1) | (at_builtin; refine wpList_append_run2 rfl _ _ 40 9 rfl _ _ _ _ rfl rfl R.out ?_))
  go_ret2
  exact ⟨rfl, A3.out, B3.out⟩
end Go.Proofs.YtdhkdniddjnigaaGreatDoor

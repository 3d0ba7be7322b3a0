import Derived.Test.YtdhkdniddjnigaaGreatDoorRq
namespace Go.Proofs.YtdhkdniddjnigaaGreatDoor
open Go.RowKit
set_option linter.unusedVariables false

set_option maxHeartbeats 6400000 in
set_option maxRecDepth 1000000 in
theorem rquoted_any {l : List UInt8} {o : Nat} {ws : Ws} {cs : List Comp} {w : World} (h : All cs w) (hl : l.length ≤ 8192) (ho : o < l.length) :
    Calls Tryz.prog 135 #[.string ⟨l.toArray⟩, .int .i64 (o : Int)] w (QPost (runW (.quote o []) ws (o + 1) (l.drop (o + 1))) l o ws cs) := by
  have hz : (⟨l.toArray⟩ : ByteArray).size = l.length := by simp [ByteArray.size]
  have IX : Hid (∀ k, k < l.length → ∀ W, (Instr.index 9 (.string ⟨l.toArray⟩) (.int .i64 (k : Int))).run Tryz.prog W = .ok (.int .u8 ((l.getD k 0).toNat : Int)) W) := fun k hk W => idx_at hk W
  have N := hid (All.addNil (e := 5) h)
  generalize hA : runW (.quote o []) ws (o + 1) (l.drop (o + 1)) = AN at *
  have HA := hid hA
  clear hA h
  generalize ByteArray.mk l.toArray = S at *
  generalize hn : l.length = n at *
  have HN := hid hn
  clear hn
  go_enter Tryz.func135, Tryz.ntmps135
  go_wp2
  go_loopw [7, 8] (fun ov iv wr => ∃ (i : Nat) (x : List UInt8) (ao : Option Addr) (c : Nat), i ≤ n ∧ o < i ∧ iv = .int .i64 (i : Int) ∧ ov = .slice ao x.length c ∧ x.length ≤ i ∧ Hid (All (ownC 5 (.slice ao x.length c) (cellsB x) :: cs) wr) ∧ Hid (AN = runW (.quote o x) ws i (l.drop i))) (fun _ iv _ => n - (intOf iv).toNat)
  case atStart => exact ⟨o + 1, [], none, 0, by omega, by omega, by go_num, rfl, by simp, N, hid HA.out.symm⟩
  case round =>
    obtain ⟨i, x, ao, c, hi, hoi, rfl, rfl, hx, hA, hrun⟩ := hrel
    by_cases hlt : i < n
    · have hlt' : (i : Int) < (n : Int) := by omega
      have ix := IX.out i hlt
      generalize hb : l.getD i 0 = b at ix
      have HB := hid hb
      clear hb
      by_cases h34 : b.toNat = 34
      · have bi : (b.toNat : Int) = 34 := by omega
        rw [bi] at ix
        have cv := conv_string (reads_own hA.out)
        have C := hid (risBare_any (l := x) (w := wr) (by omega))
        have D := hid hA.out.tail
        cases hw : isBareW x with
        | true =>
          have fin : Hid (AN = .byte o) := hid (by rw [hrun.out]; exact runW_bad (by rw [HN.out]; exact hlt) (by rw [HB.out]; simp [stepW, h34, hw]))
          clear h34 bi
          generalize ByteArray.mk x.toArray = X at *
          generalize x.length = nx at *
          go_wp2_with (go_at_call 150; refine C.out.mono ?_; rintro e w1 ⟨rfl, rfl⟩; rw [hw])
          go_ret3
          exact ⟨[], o, 161, rfl, D.out, Or.inr ⟨by omega, by rw [fin.out]; rfl, by rw [fin.out]; rfl, by rw [fin.out]; rfl⟩⟩
        | false =>
          have fin : Hid (AN = runW .closed (ws ++ [x]) (i + 1) (l.drop (i + 1))) := hid (by rw [hrun.out]; exact runW_go (by rw [HN.out]; exact hlt) (by rw [HB.out]; simp [stepW, h34, hw]))
          clear h34 bi
          generalize hX : ByteArray.mk x.toArray = X at *
          have HX := hid hX
          clear hX
          generalize x.length = nx at *
          go_wp2_with (go_at_call 150; refine C.out.mono ?_; rintro e w1 ⟨rfl, rfl⟩; rw [hw])
          go_ret3
          refine ⟨x, i + 1, 0, ?_, D.out, Or.inl ⟨rfl, by rw [HN.out]; omega, by omega, fin.out⟩⟩
          rw [HX.out]
          rfl
      · have n34 : ((b.toNat : Int) == 34) = false := by simp; omega
        by_cases hp : 32 ≤ b.toNat ∧ b.toNat ≤ 126
        · have p1 : ¬ (b.toNat : Int) < 32 := by omega
          have p2 : ¬ (126 : Int) < (b.toNat : Int) := by omega
          by_cases h92 : b.toNat = 92
          · have bi : (b.toNat : Int) = 92 := by omega
            rw [bi] at ix
            have hesc : Hid (AN = runW (.esc o x i) ws (i + 1) (l.drop (i + 1))) := hid (by rw [hrun.out]; exact runW_go (by rw [HN.out]; exact hlt) (by rw [HB.out]; simp [stepW, h92]))
            clear hrun h92 bi h34 n34 p1 p2 hp HB
            by_cases hlt1 : i + 1 < n
            · have hge1 : ¬ (n : Int) ≤ (i : Int) + 1 := by omega
              have ix1 := IX.out (i + 1) hlt1
              rw [show ((i + 1 : Nat) : Int) = (i : Int) + 1 from by omega] at ix1
              generalize hb1 : l.getD (i + 1) 0 = b1 at ix1
              have HB1 := hid hb1
              clear hb1
              by_cases hq : b1.toNat = 34 ∨ b1.toNat = 92
              · have e0 : b1.toNat ≠ 120 := by omega
                have nxt : Hid (AN = runW (.quote o (x ++ [b1])) ws (i + 2) (l.drop (i + 2))) := hid (by rw [hesc.out]; exact runW_go (by rw [HN.out]; exact hlt1) (by rw [HB1.out]; simp [stepW, e0, hq]))
                clear e0
                obtain ⟨ao1, c1, w1, hr, A1⟩ := app_byte hA.out b1 (by omega)
                have R := hid hr
                have A2 := hid A1
                have EL := hid (show (x ++ [b1]).length = x.length + 1 by simp)
                clear hr A1
                by_cases h34 : b1.toNat = 34
                · have bj : (b1.toNat : Int) = 34 := by omega
                  rw [bj] at ix1 R
                  clear h34 bj hq
                  generalize hnw : x.length = nw at *
                  clear hnw
                  go_wp2_with (at_builtin; refine wpList_append_run rfl _ _ 40 rfl _ _ _ _ rfl rfl R.out ?_)
                  go_roundw
                  case rel => exact ⟨i + 2, x ++ [b1], ao1, c1, by omega, by omega, by go_num, by rw [EL.out], by rw [EL.out]; omega, hid (by rw [EL.out]; exact A2.out), nxt⟩
                  case measure => simp [intOf]; omega
                · have bj : (b1.toNat : Int) = 92 := by omega
                  rw [bj] at ix1 R
                  clear h34 bj hq
                  generalize hnw : x.length = nw at *
                  clear hnw
                  go_wp2_with (at_builtin; refine wpList_append_run rfl _ _ 40 rfl _ _ _ _ rfl rfl R.out ?_)
                  go_roundw
                  case rel => exact ⟨i + 2, x ++ [b1], ao1, c1, by omega, by omega, by go_num, by rw [EL.out], by rw [EL.out]; omega, hid (by rw [EL.out]; exact A2.out), nxt⟩
                  case measure => simp [intOf]; omega
              · have n34 : ((b1.toNat : Int) == 34) = false := by simp; omega
                have n92 : ((b1.toNat : Int) == 92) = false := by simp; omega
                by_cases h120 : b1.toNat = 120
                · have bj : (b1.toNat : Int) = 120 := by omega
                  rw [bj] at ix1
                  have inn : Hid (Inn AN l o i x ws 0 0) := hid ⟨rfl, by rw [hesc.out]; exact runW_go (by rw [HN.out]; exact hlt1) (by rw [HB1.out]; simp [stepW, h120])⟩
                  clear hesc HB1 hq n34 n92 h120 bj
                  go_wp2
                  go_loopw [10, 11] (fun vv kv wr2 => ∃ (j v : Nat), j ≤ 2 ∧ i + 2 + j ≤ n ∧ kv = .int .i64 ((i : Int) + 2 + j) ∧ vv = .int .i64 (v : Int) ∧ v < 256 ∧ Hid (Inn AN l o i x ws j v) ∧ wr2 = wr) (fun _ kv _ => i + 4 - (intOf kv).toNat)
                  case atStart => exact ⟨0, 0, by omega, by omega, by go_num, rfl, by omega, inn, rfl⟩
                  case round =>
                    obtain ⟨j, v, hj, hjn, rfl, rfl, hv, hinn, rfl⟩ := hrel
                    clear inn ix ix1
                    by_cases hj2 : j < 2
                    · have hk4 : (i : Int) + 2 + j < (i : Int) + 4 := by omega
                      by_cases hlt2 : i + 2 + j < n
                      · have hgeF : ¬ (n : Int) ≤ (i : Int) + 2 + j := by omega
                        have ix2 := IX.out (i + 2 + j) hlt2
                        rw [show ((i + 2 + j : Nat) : Int) = (i : Int) + 2 + j from by omega] at ix2
                        have DG := hid (rdigit_any (l.getD (i + 2 + j) 0) wr)
                        cases hx2 : hexN (l.getD (i + 2 + j) 0).toNat with
                        | none =>
                          have fin : Hid (AN = .byte (i + 2 + j)) := hid (hinn.out.bad hj2 (by rw [HN.out]; exact hlt2) hx2)
                          have D := hid hA.out.tail
                          rw [hx2] at DG
                          clear hx2 hinn
                          generalize (l.getD (i + 2 + j) 0) = b2 at *
                          generalize (b2.toNat : Int) = bi2 at *
                          go_wp2_with (go_at_call 181; refine DG.out.mono ?_; rintro e w1 ⟨rfl, rfl⟩; simp only)
                          go_ret3
                          refine ⟨[], i + 2 + j, 161, ?_, D.out, Or.inr ⟨by omega, by rw [fin.out]; rfl, by rw [fin.out]; rfl, by rw [fin.out]; rfl⟩⟩
                          rw [show ((i + 2 + j : Nat) : Int) = (i : Int) + 2 + j from by omega]
                          rfl
                        | some d =>
                          have nin := hid (hinn.out.next hj2 (by rw [HN.out]; exact hlt2) hx2)
                          have hd := hexN_lt hx2
                          have hv2 := nin.out.small
                          rw [hx2] at DG
                          clear hx2 hinn
                          generalize (l.getD (i + 2 + j) 0) = b2 at *
                          generalize (b2.toNat : Int) = bi2 at *
                          go_wp2_with (go_at_call 181; refine DG.out.mono ?_; rintro e w1 ⟨rfl, rfl⟩; simp only)
                          go_roundw
                          case rel => exact ⟨j + 1, 16 * v + d, by omega, by omega, by go_num, by go_num, hv2, nin, trivial⟩
                          case measure => simp [intOf]; omega
                      · have hgeF : (n : Int) ≤ (i : Int) + 2 + j := by omega
                        have fin : Hid (AN = .stop n) := hid (by rw [hinn.out.stop hj2 (by rw [HN.out]; omega)]; congr 1; omega)
                        have D := hid hA.out.tail
                        clear hinn
                        go_wp2
                        go_ret3
                        exact ⟨[], n, 162, rfl, D.out, Or.inr ⟨by omega, by rw [fin.out]; rfl, by rw [fin.out]; rfl, by rw [fin.out]; rfl⟩⟩
                    · have hk4 : ¬ (i : Int) + 2 + j < (i : Int) + 4 := by omega
                      have ej : j = 2 := by omega
                      have hin2 : Hid (Inn AN l o i x ws 2 v) := hid (by rw [← ej]; exact hinn.out)
                      have hjn2 : i + 4 ≤ n := by omega
                      clear ej hinn hj hjn
                      by_cases hp : 32 ≤ v ∧ v ≤ 126
                      · have p1 : (32 : Int) ≤ v := by omega
                        have p2 : (v : Int) ≤ 126 := by omega
                        have fin : Hid (AN = .byte i) := hid (by rw [hin2.out.2.2, if_pos (by simp [prnN, hp])])
                        have D := hid hA.out.tail
                        clear hin2
                        go_wp2
                        go_ret3
                        exact ⟨[], i, 161, rfl, D.out, Or.inr ⟨by omega, by rw [fin.out]; rfl, by rw [fin.out]; rfl, by rw [fin.out]; rfl⟩⟩
                      · have nxt : Hid (AN = runW (.quote o (x ++ [UInt8.ofNat v])) ws (i + 4) (l.drop (i + 4))) := hid (by rw [hin2.out.2.2, if_neg (by simp [prnN]; omega)])
                        obtain ⟨ao1, c1, w1, hr, A1⟩ := app_byte hA.out (UInt8.ofNat v) (by omega)
                        rw [show (UInt8.ofNat v).toNat = v by simp; omega] at hr
                        have R := hid hr
                        have A2 := hid A1
                        have EL := hid (show (x ++ [UInt8.ofNat v]).length = x.length + 1 by simp)
                        have hw8 : IntKind.u8.wrap (v : Int) = v := by
                          have : ∀ a : Fin 256, IntKind.u8.wrap (a.val : Int) = a.val := by decide +kernel
                          exact this ⟨v, hv⟩
                        clear hr A1 hin2
                        generalize hnw : x.length = nw at *
                        clear hnw
                        by_cases p1 : (32 : Int) ≤ v
                        · have p2 : ¬ (v : Int) ≤ 126 := by omega
                          clear hp
                          go_wp2_with (at_builtin; refine wpList_append_run rfl _ _ 40 rfl _ _ _ _ rfl rfl R.out ?_)
                          go_roundw
                          case rel => exact ⟨i + 4, x ++ [UInt8.ofNat v], ao1, c1, by omega, by omega, by go_num, by rw [EL.out], by rw [EL.out]; omega, hid (by rw [EL.out]; exact A2.out), nxt⟩
                          case measure => simp [intOf]; omega
                        · clear hp
                          go_wp2_with (at_builtin; refine wpList_append_run rfl _ _ 40 rfl _ _ _ _ rfl rfl R.out ?_)
                          go_roundw
                          case rel => exact ⟨i + 4, x ++ [UInt8.ofNat v], ao1, c1, by omega, by omega, by go_num, by rw [EL.out], by rw [EL.out]; omega, hid (by rw [EL.out]; exact A2.out), nxt⟩
                          case measure => simp [intOf]; omega
                · have n120 : ((b1.toNat : Int) != 120) = true := by simp; omega
                  have fin : Hid (AN = .byte (i + 1)) := hid (by rw [hesc.out]; exact runW_bad (by rw [HN.out]; exact hlt1) (by rw [HB1.out]; simp [stepW, h120, hq]))
                  have D := hid hA.out.tail
                  clear hq h120 hesc
                  go_wp2
                  go_ret3
                  exact ⟨[], i + 1, 161, rfl, D.out, Or.inr ⟨by omega, by rw [fin.out]; rfl, by rw [fin.out]; rfl, by rw [fin.out]; rfl⟩⟩
            · have hge1 : (n : Int) ≤ (i : Int) + 1 := by omega
              have fin : Hid (AN = .stop n) := hid (by rw [hesc.out, runW_end (by rw [HN.out]; omega)]; simp only [finW]; congr 1; omega)
              have D := hid hA.out.tail
              clear hesc
              go_wp2
              go_ret3
              exact ⟨[], n, 162, rfl, D.out, Or.inr ⟨by omega, by rw [fin.out]; rfl, by rw [fin.out]; rfl, by rw [fin.out]; rfl⟩⟩
          · have n92 : ((b.toNat : Int) != 92) = true := by simp; omega
            have nx : Hid (AN = runW (.quote o (x ++ [b])) ws (i + 1) (l.drop (i + 1))) := hid (by rw [hrun.out]; exact runW_go (by rw [HN.out]; exact hlt) (by rw [HB.out]; simp [stepW, h34, h92, prnN, hp]))
            obtain ⟨ao1, c1, w1, hr, A1⟩ := app_byte hA.out b (by omega)
            have R := hid hr
            have A2 := hid A1
            have el : (x ++ [b]).length = x.length + 1 := by simp
            have EL := hid el
            clear hr A1 h34 h92 hp el
            generalize (b.toNat : Int) = bi at *
            generalize hnw : x.length = nw at *
            clear hnw
            go_wp2_with (at_builtin; refine wpList_append_run rfl _ _ 40 rfl _ _ _ _ rfl rfl R.out ?_)
            go_roundw
            case rel => exact ⟨i + 1, x ++ [b], ao1, c1, by omega, by omega, by go_num, by rw [EL.out], by rw [EL.out]; omega, hid (by rw [EL.out]; exact A2.out), nx⟩
            case measure => simp [intOf]; omega
        · have e9 : b.toNat ≠ 92 := by omega
          have fin : Hid (AN = .byte i) := hid (by rw [hrun.out]; exact runW_bad (by rw [HN.out]; exact hlt) (by rw [HB.out]; simp [stepW, h34, e9, prnN, hp]))
          clear e9
          have D := hid hA.out.tail
          by_cases p1 : (b.toNat : Int) < 32
          · clear h34 hp
            go_wp2
            go_ret3
            exact ⟨[], i, 161, rfl, D.out, Or.inr ⟨by omega, by rw [fin.out]; rfl, by rw [fin.out]; rfl, by rw [fin.out]; rfl⟩⟩
          · have p2 : (126 : Int) < (b.toNat : Int) := by omega
            clear h34 hp
            go_wp2
            go_ret3
            exact ⟨[], i, 161, rfl, D.out, Or.inr ⟨by omega, by rw [fin.out]; rfl, by rw [fin.out]; rfl, by rw [fin.out]; rfl⟩⟩
    · have hlt' : ¬ (i : Int) < (n : Int) := by omega
      have hge : (n : Int) ≤ (i : Int) := by omega
      have fin : Hid (AN = .stop n) := hid (by rw [hrun.out, runW_end (by rw [HN.out]; omega)]; simp only [finW]; congr 1; omega)
      have D := hid hA.out.tail
      go_wp2
      go_ret3
      exact ⟨[], n, 162, rfl, D.out, Or.inr ⟨by omega, by rw [fin.out]; rfl, by rw [fin.out]; rfl, by rw [fin.out]; rfl⟩⟩
end Go.Proofs.YtdhkdniddjnigaaGreatDoor

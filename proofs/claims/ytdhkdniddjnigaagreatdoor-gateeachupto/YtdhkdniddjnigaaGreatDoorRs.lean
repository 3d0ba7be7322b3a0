import Derived.Test.YtdhkdniddjnigaaGreatDoorRq2
namespace Go.Proofs.YtdhkdniddjnigaaGreatDoor
open Go.RowKit
set_option linter.unusedVariables false

/-- What stands from a place to another. -/
def cutW (l : List UInt8) (i j : Nat) : List UInt8 := (l.drop i).take (j - i)
theorem cutW_snoc {l : List UInt8} {i j : Nat} (hi : i ≤ j) (hj : j < l.length) : cutW l i (j + 1) = cutW l i j ++ [l.getD j 0] := by
  unfold cutW
  rw [show j + 1 - i = (j - i) + 1 by omega, List.take_add_one]
  congr 1
  rw [List.getElem?_drop, show i + (j - i) = j by omega, List.getElem?_eq_getElem hj]
  simp [List.getD, hj]
theorem cutW_one {l : List UInt8} {i : Nat} (hj : i < l.length) : cutW l i (i + 1) = [l.getD i 0] := by
  rw [cutW_snoc (Nat.le_refl _) hj]
  simp [cutW]
theorem cut_run {l : List UInt8} {i j : Nat} (hi : i ≤ j) (hj : j ≤ l.length) (W : World) : (Instr.slice 9 (.string ⟨l.toArray⟩) (some (.int .i64 (i : Int))) (some (.int .i64 (j : Int))) none).run Tryz.prog W = .ok (.string ⟨(cutW l i j).toArray⟩) W := by
  have hs : (⟨l.toArray⟩ : ByteArray).size = l.length := by simp [ByteArray.size]
  rw [run_slice_string W 9 _ _ _ _ _ Tryz.underlying9 (by omega) (by omega) (by rw [hs]; omega)]
  congr 2
  apply ByteArray.ext
  simp only [ByteArray.data_extract, Int.toNat_natCast]
  apply Array.ext'
  simp [cutW, List.extract_eq_take_drop]

/-- A bare word on its way. -/
def Bar (AN : Ans) (l : List UInt8) (ws : Ws) (i j : Nat) : Prop :=
  (j = i ∧ AN = runW .ahead ws i (l.drop i)) ∨ (i < j ∧ AN = runW (.bare (cutW l i j)) ws j (l.drop j))
theorem Bar.next {AN : Ans} {l : List UInt8} {ws : Ws} {i j : Nat} (h : Bar AN l ws i j) (hj : j < l.length) (hb : bareN (l.getD j 0).toNat = true) : Bar AN l ws i (j + 1) := by
  have b32 : (l.getD j 0).toNat ≠ 32 := by intro e; rw [e] at hb; simp [bareN] at hb
  have b34 : (l.getD j 0).toNat ≠ 34 := by intro e; rw [e] at hb; simp [bareN] at hb
  rcases h with ⟨rfl, h⟩ | ⟨hi, h⟩
  · refine Or.inr ⟨by omega, ?_⟩
    rw [h, runW_go hj (s' := .bare [l.getD j 0]) (ws' := ws) (by simp only [stepW]; rw [if_neg b32, if_neg b34, if_pos hb]), cutW_one hj]
  · refine Or.inr ⟨by omega, ?_⟩
    rw [h, runW_go hj (s' := .bare (cutW l i j ++ [l.getD j 0])) (ws' := ws) (by simp only [stepW]; rw [if_pos hb]), cutW_snoc (by omega) hj]
/-- Behind a word: a blank, or the end. -/
theorem behind {l : List UInt8} {ws : Ws} {k : Nat} (h : l.length ≤ k ∨ (l.getD k 0).toNat = 32) : runW .closed ws k (l.drop k) = runW .ahead ws k (l.drop k) := by
  by_cases hk : k < l.length
  · have h32 : (l.getD k 0).toNat = 32 := by rcases h with h | h <;> omega
    rw [runW_go hk (s' := .ahead) (ws' := ws) (by simp only [stepW]; rw [if_pos h32]), runW_go hk (s' := .ahead) (ws' := ws) (by simp only [stepW]; rw [if_pos h32])]
  · rw [runW_end (by omega), runW_end (by omega)]; rfl
theorem behind_bare {l : List UInt8} {ws : Ws} {x : List UInt8} {k : Nat} (h : l.length ≤ k ∨ (l.getD k 0).toNat = 32) : runW (.bare x) ws k (l.drop k) = runW .ahead (ws ++ [x]) k (l.drop k) := by
  by_cases hk : k < l.length
  · have h32 : (l.getD k 0).toNat = 32 := by rcases h with h | h <;> omega
    rw [runW_go hk (s' := .ahead) (ws' := ws ++ [x]) (by simp only [stepW]; rw [h32]; rfl), runW_go hk (s' := .ahead) (ws' := ws ++ [x]) (by simp only [stepW]; rw [if_pos h32])]
  · rw [runW_end (by omega), runW_end (by omega)]; rfl

set_option maxRecDepth 1000000 in
theorem rSplit_long {l : List UInt8} {cs : List Comp} {w : World} (h : All cs w) (hl : 8192 < l.length) (hl2 : l.length ≤ 140737488355328) :
    Calls Tryz.prog 103 #[.string ⟨l.toArray⟩] w (SplitPost .long cs) := by
  have hz : (⟨l.toArray⟩ : ByteArray).size = l.length := by simp [ByteArray.size]
  have A := hid (All.addNil (e := 9) h)
  clear h
  generalize ByteArray.mk l.toArray = S at *
  generalize l.length = n at *
  have hl' : (8192 : Int) < n := by omega
  go_enter Tryz.func103, Tryz.ntmps103
  go_wp2
  go_ret3
  exact ⟨_, rfl, A.out⟩

set_option maxHeartbeats 6400000 in
set_option maxRecDepth 1000000 in
theorem rSplit_short {l : List UInt8} {cs : List Comp} {w : World} (h : All cs w) (hl : l.length ≤ 8192) :
    Calls Tryz.prog 103 #[.string ⟨l.toArray⟩] w (SplitPost (runW .ahead [] 0 l) cs) := by
  have hz : (⟨l.toArray⟩ : ByteArray).size = l.length := by simp [ByteArray.size]
  have IX : Hid (∀ k, k < l.length → ∀ W, (Instr.index 9 (.string ⟨l.toArray⟩) (.int .i64 (k : Int))).run Tryz.prog W = .ok (.int .u8 ((l.getD k 0).toNat : Int)) W) := fun k hk W => idx_at hk W
  have CR : Hid (∀ i j : Nat, i ≤ j → j ≤ l.length → ∀ W, (Instr.slice 9 (.string ⟨l.toArray⟩) (some (.int .i64 (i : Int))) (some (.int .i64 (j : Int))) none).run Tryz.prog W = .ok (.string ⟨(cutW l i j).toArray⟩) W) := fun i j hi hj W => cut_run hi hj W
  have RQ : Hid (∀ (o : Nat) (ws : Ws) (ds : List Comp) (W : World), All ds W → o < l.length → Calls Tryz.prog 135 #[.string ⟨l.toArray⟩, .int .i64 (o : Int)] W (QPost (runW (.quote o []) ws (o + 1) (l.drop (o + 1))) l o ws ds)) := hid (fun o ws ds W hW ho => rquoted_any hW hl ho)
  have N := hid (All.addNil (e := 9) h)
  have R0 : Hid (runW .ahead [] 0 l = runW .ahead [] 0 (l.drop 0)) := hid (by simp)
  generalize hA : runW .ahead [] 0 l = AN at *
  clear hA h
  generalize ByteArray.mk l.toArray = S at *
  generalize hn : l.length = n at *
  have HN := hid hn
  clear hn
  have hl' : ¬ (8192 : Int) < n := by omega
  go_enter Tryz.func103, Tryz.ntmps103
  go_wp2
  go_loopw [5, 6] (fun ov iv wr => ∃ (i : Nat) (ws : Ws) (ao : Option Addr) (c : Nat), i ≤ n ∧ iv = .int .i64 (i : Int) ∧ ov = .slice ao ws.length c ∧ ws.length ≤ i ∧ Hid (All (ownC 9 (.slice ao ws.length c) (txW ws) :: cs) wr) ∧ Hid (AN = runW .ahead ws i (l.drop i))) (fun _ iv _ => n - (intOf iv).toNat)
  case atStart => exact ⟨0, [], none, 0, by omega, rfl, rfl, by simp, N, R0⟩
  case round =>
    obtain ⟨i, ws, ao, c, hi, rfl, rfl, hws, hA, hrun⟩ := hrel
    clear N R0
    by_cases hlt : i < n
    · have hlt' : (i : Int) < (n : Int) := by omega
      have ix := IX.out i hlt
      generalize hb : l.getD i 0 = b at ix
      have HB := hid hb
      clear hb
      by_cases h32 : b.toNat = 32
      · have bi : (b.toNat : Int) = 32 := by omega
        rw [bi] at ix
        have nx : Hid (AN = runW .ahead ws (i + 1) (l.drop (i + 1))) := hid (by rw [hrun.out]; exact runW_go (by rw [HN.out]; exact hlt) (by rw [HB.out]; simp [stepW, h32]))
        clear h32 bi
        generalize hnw : ws.length = nw at *
        have HNW := hid hnw
        clear hnw
        go_wp2
        go_roundw
        case rel => exact ⟨i + 1, ws, ao, c, by omega, by go_num, by rw [HNW.out], by rw [HNW.out]; omega, hid (by rw [HNW.out]; exact hA.out), nx⟩
        case measure => simp [intOf]; omega
      · have n32 : ((b.toNat : Int) == 32) = false := by simp; omega
        by_cases h34 : b.toNat = 34
        · have bi : (b.toNat : Int) = 34 := by omega
          rw [bi] at ix
          have C := hid (RQ.out i ws _ wr hA.out hlt)
          have e1 : Hid (AN = runW (.quote i []) ws (i + 1) (l.drop (i + 1))) := hid (by rw [hrun.out]; exact runW_go (by rw [HN.out]; exact hlt) (by rw [HB.out]; simp [stepW, h34]))
          rw [← e1.out] at C
          clear e1 hrun h32 h34 n32 bi
          generalize hnw : ws.length = nw at *
          have HNW := hid hnw
          clear hnw
          go_wp2_with (go_at_call 135; refine C.out.mono ?_; rintro e w1 ⟨x, k, er, rfl, A1, hc⟩; refine Hid.out ?_)
          refine hid ?_
          clear C hA
          rcases hc with ⟨rfl, hkn, hik, hAN⟩ | ⟨her, h1, h2, h3⟩
          · rw [HN.out] at hkn
            have HAN := hid hAN
            obtain ⟨ao1, c1, w2, hr, A2⟩ := app_txt (l := ws) A1 x (by rw [HNW.out]; omega)
            rw [HNW.out] at hr A2
            have R := hid hr
            have A3 := hid A2
            have EL := hid (show (ws ++ [x]).length = nw + 1 by rw [List.length_append, HNW.out]; rfl)
            clear hr A2 A1 hAN
            generalize hX : ByteArray.mk x.toArray = X at *
            clear hX
            by_cases hk : k < n
            · have hk' : (k : Int) < (n : Int) := by omega
              have ixk := IX.out k hk
              generalize hbk : l.getD k 0 = bk at ixk
              have HBK := hid hbk
              clear hbk
              by_cases hk32 : bk.toNat = 32
              · have bki : (bk.toNat : Int) = 32 := by omega
                rw [bki] at ixk
                have nxt : Hid (AN = runW .ahead (ws ++ [x]) k (l.drop k)) := hid (by rw [HAN.out]; exact behind (Or.inr (by rw [HBK.out]; exact hk32)))
                clear hk32 bki
                go_wp2_with (at_builtin; refine wpList_append_run rfl _ _ 43 rfl _ _ _ _ rfl rfl R.out ?_)
                go_roundw
                case rel => exact ⟨k, ws ++ [x], ao1, c1, by omega, rfl, by rw [EL.out], by rw [EL.out]; omega, hid (by rw [EL.out]; exact A3.out), nxt⟩
                case measure => simp [intOf]; omega
              · have bki : ((bk.toNat : Int) != 32) = true := by simp; omega
                have fin : Hid (AN = .byte k) := hid (by rw [HAN.out]; exact runW_bad (by rw [HN.out]; exact hk) (by rw [HBK.out]; simp [stepW, hk32]))
                have D := hid (All.addNil (e := 9) A3.out.tail)
                clear hk32
                go_wp2_with (at_builtin; refine wpList_append_run rfl _ _ 43 rfl _ _ _ _ rfl rfl R.out ?_)
                go_ret3
                exact ⟨_, by rw [fin.out]; rfl, by rw [fin.out]; exact D.out⟩
            · have hk' : ¬ (k : Int) < (n : Int) := by omega
              have nxt : Hid (AN = runW .ahead (ws ++ [x]) k (l.drop k)) := hid (by rw [HAN.out]; exact behind (Or.inl (by rw [HN.out]; omega)))
              go_wp2_with (at_builtin; refine wpList_append_run rfl _ _ 43 rfl _ _ _ _ rfl rfl R.out ?_)
              go_roundw
              case rel => exact ⟨k, ws ++ [x], ao1, c1, by omega, rfl, by rw [EL.out], by rw [EL.out]; omega, hid (by rw [EL.out]; exact A3.out), nxt⟩
              case measure => simp [intOf]; omega
          · have hne : ((er : Int) != 0) = true := by simp; omega
            have D := hid (All.addNil (e := 9) A1.tail)
            have H1 := hid h1
            have H2 := hid h2
            have H3 := hid h3
            clear h1 h2 h3 her A1
            go_wp2
            go_ret3
            exact ⟨_, by rw [H1.out, H2.out]; rfl, by rw [H3.out]; exact D.out⟩
        · have n34 : ((b.toNat : Int) == 34) = false := by simp; omega
          have inn : Hid (Bar AN l ws i i) := hid (Or.inl ⟨rfl, hrun.out⟩)
          have fin0 : Hid (bareN b.toNat = false → AN = .byte i) := hid (fun hx => by rw [hrun.out]; exact runW_bad (by rw [HN.out]; exact hlt) (by rw [HB.out]; simp only [stepW]; rw [if_neg h32, if_neg h34, if_neg (by rw [hx]; simp)]))
          clear hrun h34
          generalize hnw : ws.length = nw at *
          have HNW := hid hnw
          clear hnw
          go_wp2
          go_loopw [6] (fun jv wr2 => ∃ j : Nat, i ≤ j ∧ j ≤ n ∧ jv = .int .i64 (j : Int) ∧ Hid (Bar AN l ws i j) ∧ wr2 = wr) (fun jv _ => n - (intOf jv).toNat)
          case atStart => exact ⟨i, Nat.le_refl _, hi, rfl, inn, rfl⟩
          case round =>
            obtain ⟨j, hij, hjn, rfl, hbar, rfl⟩ := hrel
            clear inn ix n32 n34
            by_cases hjl : j < n
            · have hj' : (j : Int) < (n : Int) := by omega
              have ixj := IX.out j hjl
              have BC := hid (rbare_any (l.getD j 0) wr)
              cases hx : bareN (l.getD j 0).toNat with
              | true =>
                have nb := hid (hbar.out.next (by rw [HN.out]; exact hjl) hx)
                generalize hbj : l.getD j 0 = bj at *
                clear hbj
                generalize (bj.toNat : Int) = bi at *
                go_wp2_with (go_at_call 136; refine BC.out.mono ?_; rintro e w1 ⟨rfl, rfl⟩; rw [hx])
                go_roundw
                case rel => exact ⟨j + 1, by omega, by omega, by go_num, nb, trivial⟩
                case measure => simp [intOf]; omega
              | false =>
                by_cases hji : i < j
                · have hji' : (i : Int) < (j : Int) := by omega
                  have hAN : Hid (AN = runW (.bare (cutW l i j)) ws j (l.drop j)) := hid (by
                    rcases hbar.out with ⟨e, _⟩ | ⟨_, h⟩
                    · omega
                    · exact h)
                  have cr := CR.out i j hij hjn
                  obtain ⟨ao1, c1, w2, hr, A2⟩ := app_txt (l := ws) hA.out (cutW l i j) (by rw [HNW.out]; omega)
                  rw [HNW.out] at hr A2
                  have R := hid hr
                  have A3 := hid A2
                  have EL := hid (show (ws ++ [cutW l i j]).length = nw + 1 by rw [List.length_append, HNW.out]; rfl)
                  clear hr A2
                  by_cases hk32 : (l.getD j 0).toNat = 32
                  · have nxt : Hid (AN = runW .ahead (ws ++ [cutW l i j]) j (l.drop j)) := hid (by rw [hAN.out]; exact behind_bare (Or.inr hk32))
                    have bji : ((l.getD j 0).toNat : Int) = 32 := by omega
                    rw [bji] at ixj BC
                    generalize hX : ByteArray.mk (cutW l i j).toArray = X at *
                    generalize hbj : l.getD j 0 = bj at *
                    clear hX hbj bji hk32
                    go_wp2_with (first | (go_at_call 136; refine BC.out.mono ?_; rintro e w1 ⟨rfl, rfl⟩; rw [hx]) | (at_builtin; refine wpList_append_run rfl _ _ 43 rfl _ _ _ _ rfl rfl R.out ?_))
                    go_roundw
                    case rel => exact ⟨j, ws ++ [cutW l i j], ao1, c1, by omega, rfl, by rw [EL.out], by rw [EL.out]; omega, hid (by rw [EL.out]; exact A3.out), nxt⟩
                    case measure => simp [intOf]; omega
                  · have fin : Hid (AN = .byte j) := hid (by rw [hAN.out]; exact runW_bad (by rw [HN.out]; exact hjl) (by simp only [stepW]; rw [hx, if_neg (by simp), if_neg hk32]))
                    have bki : (((l.getD j 0).toNat : Int) != 32) = true := by simp only [bne_iff_ne, ne_eq]; omega
                    have D := hid (All.addNil (e := 9) A3.out.tail)
                    generalize hX : ByteArray.mk (cutW l i j).toArray = X at *
                    generalize hbj : l.getD j 0 = bj at *
                    clear hX hbj hk32
                    go_wp2_with (first | (go_at_call 136; refine BC.out.mono ?_; rintro e w1 ⟨rfl, rfl⟩; rw [hx]) | (at_builtin; refine wpList_append_run rfl _ _ 43 rfl _ _ _ _ rfl rfl R.out ?_))
                    go_ret3
                    exact ⟨_, by rw [fin.out]; rfl, by rw [fin.out]; exact D.out⟩
                · have ej : j = i := by omega
                  have fin : Hid (AN = .byte j) := hid (by rw [ej] at hx ⊢; rw [HB.out] at hx; exact fin0.out hx)
                  have hji' : ¬ (i : Int) < (j : Int) := by omega
                  have hne : (l.getD j 0).toNat ≠ 32 := by rw [ej, HB.out]; exact h32
                  have bki : (((l.getD j 0).toNat : Int) != 32) = true := by simp only [bne_iff_ne, ne_eq]; omega
                  have D := hid (All.addNil (e := 9) hA.out.tail)
                  generalize hbj : l.getD j 0 = bj at *
                  clear hbj hne ej fin0
                  go_wp2_with (go_at_call 136; refine BC.out.mono ?_; rintro e w1 ⟨rfl, rfl⟩; rw [hx])
                  go_ret3
                  exact ⟨_, by rw [fin.out]; rfl, by rw [fin.out]; exact D.out⟩
            · have hj' : ¬ (j : Int) < (n : Int) := by omega
              have hji' : (i : Int) < (j : Int) := by omega
              have hAN : Hid (AN = runW (.bare (cutW l i j)) ws j (l.drop j)) := hid (by
                rcases hbar.out with ⟨e, _⟩ | ⟨_, h⟩
                · omega
                · exact h)
              have cr := CR.out i j hij hjn
              obtain ⟨ao1, c1, w2, hr, A2⟩ := app_txt (l := ws) hA.out (cutW l i j) (by rw [HNW.out]; omega)
              rw [HNW.out] at hr A2
              have R := hid hr
              have A3 := hid A2
              have EL := hid (show (ws ++ [cutW l i j]).length = nw + 1 by rw [List.length_append, HNW.out]; rfl)
              have nxt : Hid (AN = runW .ahead (ws ++ [cutW l i j]) j (l.drop j)) := hid (by rw [hAN.out]; exact behind_bare (Or.inl (by rw [HN.out]; omega)))
              clear hr A2
              generalize hX : ByteArray.mk (cutW l i j).toArray = X at *
              clear hX
              go_wp2_with (at_builtin; refine wpList_append_run rfl _ _ 43 rfl _ _ _ _ rfl rfl R.out ?_)
              go_roundw
              case rel => exact ⟨j, ws ++ [cutW l i j], ao1, c1, by omega, rfl, by rw [EL.out], by rw [EL.out]; omega, hid (by rw [EL.out]; exact A3.out), nxt⟩
              case measure => simp [intOf]; omega
    · have hlt' : ¬ (i : Int) < (n : Int) := by omega
      have fin : Hid (AN = .ok ws) := hid (by rw [hrun.out, runW_end (by rw [HN.out]; omega)]; rfl)
      go_wp2
      go_ret3
      exact ⟨_, by rw [fin.out]; rfl, by rw [fin.out]; exact hA.out⟩
end Go.Proofs.YtdhkdniddjnigaaGreatDoor

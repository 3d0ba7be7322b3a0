import Derived.Test.YtblojlaifnmimaaGreatDoorRn
import Derived.Test.YtblojlaifnmimaaGreatDoorJ22
import Derived.Test.YtblojlaifnmimaaGreatDoorJ24
import Derived.Test.YtblojlaifnmimaaGreatDoorRq3
import Derived.Test.YtblojlaifnmimaaGreatDoorJ19
namespace Go.Proofs.YtblojlaifnmimaaGreatDoor
open Go.RowKit
set_option linter.unusedVariables false

theorem pl_set0 {c d : List Int} {v : Value} (h : c.length = 10) (h2 : d.length = 10) : setMid (cI c ++ [v]) 0 (cI d) = cI d ++ [v] := by
  rw [setMid_eq _ _ _ (by simp [cI_len, h, h2])]
  simp only [List.take_zero, List.nil_append, Nat.zero_add, cI_len, h2]
  rw [List.drop_append_of_le_length (by rw [cI_len, h]; exact Nat.le_refl _), List.drop_of_length_le (by rw [cI_len, h]; exact Nat.le_refl _), List.nil_append]
theorem pl_set10 {c : List Int} {v u : Value} (h : c.length = 10) : (cI c ++ [v]).set 10 u = cI c ++ [u] := by
  obtain ⟨a0, a1, a2, a3, a4, a5, a6, a7, a8, a9, rfl⟩ := ten h
  rfl
theorem pl_at10 {c : List Int} {v : Value} (h : c.length = 10) : (cI c ++ [v])[10]? = some v := by
  obtain ⟨a0, a1, a2, a3, a4, a5, a6, a7, a8, a9, rfl⟩ := ten h
  rfl
theorem cfg_new2 (W : World) : (W.alloc (.cells #[.int .i64 0, .int .i64 0, .int .i64 0, .int .i64 0, .int .i64 0, .int .i64 0, .int .i64 0, .int .i64 0, .int .i64 0, .int .i64 0] 24)).heap[W.heap.size]? = some (.cells #[.int .i64 0, .int .i64 0, .int .i64 0, .int .i64 0, .int .i64 0, .int .i64 0, .int .i64 0, .int .i64 0, .int .i64 0, .int .i64 0] 24 (0, 0)) := heap_alloc_new W _
theorem perm_pb {α : Type} (a b c d e : α) (cs : List α) : (a :: b :: c :: d :: e :: cs).Perm (e :: a :: b :: c :: d :: cs) := List.perm_middle (l₁ := [a, b, c, d]) (a := e) (l₂ := cs)
theorem perm_pc {α : Type} (a b c d : α) (cs : List α) : (a :: b :: c :: d :: cs).Perm (d :: a :: b :: c :: cs) := List.perm_middle (l₁ := [a, b, c]) (a := d) (l₂ := cs)
theorem perm_pd {α : Type} (a b c d e f : α) (cs : List α) : (a :: b :: c :: d :: e :: f :: cs).Perm (f :: a :: b :: c :: d :: e :: cs) := List.perm_middle (l₁ := [a, b, c, d, e]) (a := f) (l₂ := cs)

set_option maxHeartbeats 6400000 in
set_option maxRecDepth 1000000 in
/-- The document's Parse. -/
theorem rParse_any {l : List UInt8} {cs : List Comp} {w : World} (A : All cs w) (hl : l.length ≤ 140737488355328) :
    Calls Tryz.prog 10 #[.string ⟨l.toArray⟩] w (PPost (parseW l) cs) := by
  have hz : (⟨l.toArray⟩ : ByteArray).size = l.length := by simp [ByteArray.size]
  have A0 := hid (A.addBlk plZ 27)
  have IZ : Hid ((Tryz.prog.info? 27).map (·.size) = some plZ.toArray.size) := hid Tryz.i27
  have OZ : Hid (plZ.toArray.all (·.oneCell') = true) := hid (pl_one zC none 0 0)
  have H0 := hid A0.out.1.2.1
  by_cases h6 : 65536 < l.length
  · have e1 : parseW l = .bad 0 172 := by unfold parseW; rw [if_pos h6]
    rw [e1]
    have h6' : (65536 : Int) < (l.length : Int) := by omega
    have A4 := hid (A0.out.setRow (vs' := plZ))
    clear e1 A h6
    generalize ByteArray.mk l.toArray = X at *
    go_enter Tryz.func10, Tryz.ntmps10
    rw [plZ_eq] at H0 A4
    go_wp2_with (first | (refine wpList_build rfl 27 _ rfl (by kernel_rfl) ?_) | (refine wpList_store_row rfl 27 _ _ rfl w.heap.size plZ.toArray rfl (by kernel_rfl) 27 _ H0.out IZ.out rfl OZ.out ?_))
    refine ret3 rfl rfl rfl rfl (ld27 A4.out.1.2.1 rfl) rfl ?_
    exact PPost.bad A4.out.tail
  · have h6' : ¬ (65536 : Int) < (l.length : Int) := by omega
    have e1 : parseW l = goL 0 ⟨none, []⟩ (linesW [] l) := by unfold parseW; rw [if_neg h6]
    rw [e1]
    clear e1
    have A1 := hid (A0.out.addBlk plZ 27)
    have esz : (w.alloc (.cells plZ.toArray 27)).heap.size = w.heap.size + 1 := by simp
    rw [esz] at A1
    have C := hid (rlines_any A1.out (show l.length ≤ 65536 by omega))
    have LM : Hid (∀ k, ((linesW [] l).getD k []).length ≤ 140737488355328) := hid (fun k => by
      by_cases hk : k < (linesW [] l).length
      · have := lines_mem l [] ((linesW [] l).getD k []) (by rw [List.getD, List.getElem?_eq_getElem hk]; exact List.getElem_mem hk)
        simp only [List.length_nil] at this
        omega
      · rw [List.getD, List.getElem?_eq_none (by omega)]; simp)
    have LL : Hid ((linesW [] l).length ≤ 70000) := hid (by have := lines_len l []; omega)
    rw [plZ_eq] at C
    have HG : Hid (goL 0 ⟨none, []⟩ (linesW [] l) = goL 0 ⟨none, []⟩ ((linesW [] l).drop 0)) := hid rfl
    generalize linesW [] l = ls at *
    generalize hG : goL 0 ⟨none, []⟩ ls = G at *
    clear hG A A1 A0 H0 esz hl
    have hn : ls.length ≤ 70000 := LL.out
    generalize ByteArray.mk l.toArray = X at *
    go_enter Tryz.func10, Tryz.ntmps10
    go_wp2_with (go_at_call 18; refine C.out.mono ?_; rintro e w1 ⟨ao1, c1, rfl, A1⟩; have K1 := hid A1; clear A1)
    clear C
    have K2 : Hid (All (blkC (w.heap.size + 1) (cI (Option.getD none zC) ++ [.slice none 0 0]) 27 :: spC (.slice none 0 0) [] :: ownC 9 (.slice ao1 ls.length c1) (txW ls) :: blkC w.heap.size plZ 27 :: cs) w1) := hid ((All.addRow0 (e := 43) (size := 10) K1.out).perm (perm3a _ _ _ _))
    clear K1
    generalize w.heap.size + 1 = P at *
    generalize w.heap.size = R at *
    have CE : Hid (∀ W k (s : Ps) v, All (blkC P (cI (s.c.getD zC) ++ [v]) 27 :: spC v s.ss :: ownC 9 (.slice ao1 ls.length c1) (txW ls) :: blkC R plZ 27 :: cs) W → k < ls.length → ∃ g o, ao1 = some ⟨g, o, none⟩ ∧ W.cell? ⟨g, o + k, none⟩ = some (.string ⟨(ls.getD k []).toArray⟩)) := hid (fun W k s v h hk => by
      obtain ⟨g, o, e, _, h1⟩ := (rt_mem h (.tail _ (.tail _ (.head _)))).at hk
      exact ⟨g, o, e, h1⟩)
    have GA : Hid (∀ k s, k < ls.length → goL k s (ls.drop k) = if passW (ls.getD k []) = true then goL (k + 1) s (ls.drop (k + 1)) else match lineL s (ls.getD k []) with
      | .bad e => .bad (k + 1) e
      | .go s' => goL (k + 1) s' (ls.drop (k + 1))) := hid (fun k s hk => goL_at hk)
    have DL : Hid (∀ k, ls.length ≤ k → ls.drop k = []) := hid (fun k hk => List.drop_of_length_le hk)
    generalize hnl : ls.length = nl at *
    clear hnl
    go_loopw [6, 8] (fun bv iv wr => ∃ (k : Nat) (s : Ps) (v : Value), k ≤ nl ∧ iv = .int .i64 (k : Int) ∧ bv = .bool s.c.isSome ∧ Hid (G = goL k s (ls.drop k)) ∧ Hid (PsOk s) ∧ Hid (All (blkC P (cI (s.c.getD zC) ++ [v]) 27 :: spC v s.ss :: ownC 9 (.slice ao1 nl c1) (txW ls) :: blkC R plZ 27 :: cs) wr)) (fun _ iv _ => nl - (intOf iv).toNat)
    case atStart => exact ⟨0, ⟨none, []⟩, .slice none 0 0, Nat.zero_le _, rfl, rfl, HG, hid ⟨rfl, by simp⟩, K2⟩
    case round =>
      obtain ⟨k, s, v, hk, rfl, rfl, hGo, hOk, HA⟩ := hrel
      clear K2 HG
      by_cases hlt : k < nl
      · have hlt' : (k : Int) < (nl : Int) := by omega
        obtain ⟨g, o, hao, h1⟩ := CE.out wr k s v HA.out hlt
        subst hao
        have P19 := hid (rpassed_any (l := ls.getD k []) (w := wr) (LM.out k))
        have ga := GA.out k s hlt
        by_cases hp : passW (ls.getD k []) = true
        · rw [hp] at P19
          rw [if_pos hp] at ga
          have nx : Hid (G = goL (k + 1) s (ls.drop (k + 1))) := hid (by rw [hGo.out]; exact ga)
          clear ga hp hGo GA DL CE
          generalize ByteArray.mk (ls.getD k []).toArray = Y at *
          generalize hcS : s.c.isSome = bS at *
          go_wp2_with (go_at_call 19; refine P19.out.mono ?_; rintro e w2 ⟨rfl, rfl⟩)
          go_roundw
          case rel => exact ⟨k + 1, s, v, by omega, by go_num, by rw [hcS], nx, hOk, HA⟩
          case measure => simp [intOf]; omega
        · rw [if_neg hp] at ga
          have hp' : passW (ls.getD k []) = false := by simpa using hp
          rw [hp'] at P19
          have Q := hid (rSplit_any HA.out (LM.out k))
          unfold SplitPost at Q
          have wk : IntKind.i64.wrap ((k : Int) + 1) = (k : Int) + 1 := by rw [IntKind.wrap_i64]; omega
          have LN : Hid (lineL s (ls.getD k []) = if (splitW (ls.getD k [])).err ≠ 0 then .bad ((splitW (ls.getD k [])).err : Int) else wordsL s (splitW (ls.getD k [])).ws) := hid rfl
          have WL := hid (words_len (ls.getD k []))
          have WI := hid (words_in (ls.getD k []))
          have WN : Hid ((splitW (ls.getD k [])).err = 0 → (splitW (ls.getD k [])).ws ≠ []) := hid (fun h => words_ne hp' h)
          generalize lineL s (ls.getD k []) = LR at *
          clear hp hp' GA DL CE
          generalize ByteArray.mk (ls.getD k []).toArray = Y at *
          generalize splitW (ls.getD k []) = SW at *
          by_cases he : SW.err ≠ 0
          · rw [if_pos he] at LN
            rw [LN.out] at ga
            have fin : Hid (G = .bad (k + 1) (SW.err : Int)) := hid (by rw [hGo.out]; exact ga)
            have he' : ((SW.err : Int) != 0) = true := by simpa using he
            clear ga hGo LN he WL WI WN
            generalize SW.err = E at *
            generalize SW.at = AT at *
            generalize SW.ws = WS at *
            generalize s.c.isSome = bS at *
            go_wp2_with (first | (go_at_call 19; refine P19.out.mono ?_; rintro e w2 ⟨rfl, rfl⟩) | (go_at_call 20; refine Q.out.mono ?_; rintro e w3 ⟨v3, rfl, A3⟩; have K4 := hid (A3.perm (perm_pb _ _ _ _ _ _)); clear A3; have H4 := hid K4.out.1.2.1; have K5 := hid (K4.out.setRow (vs' := plZ))) | (refine wpList_build rfl 27 _ rfl (by kernel_rfl) ?_) | (refine wpList_store_row rfl 27 _ _ rfl R plZ.toArray rfl (by kernel_rfl) 27 _ H4.out IZ.out rfl OZ.out ?_))
            refine ret3 rfl rfl rfl rfl (ld27 K5.out.1.2.1 rfl) rfl ?_
            rw [fin.out]
            exact PPost.bad (n := k + 1) K5.out.tail.tail.tail.tail.tail
          · have he0 : SW.err = 0 := Classical.byContradiction he
            rw [if_neg he] at LN
            have hne := hid (WN.out he0)
            rw [he0] at Q
            clear he WN
            generalize SW.at = AT at *
            generalize SW.ws = WS at *
            clear he0
            go_upto_region 14 with (first | (go_at_call 19; refine P19.out.mono ?_; rintro e w2 ⟨rfl, rfl⟩) | (go_at_call 20; refine Q.out.mono ?_; rintro e w3 ⟨v3, rfl, A3⟩; have K3 := hid A3; clear A3))
            clear Q P19 HA h1
            unfold wordsL at LN
            have hc10 := hOk.out.1
            cases hcs : s.c with
            | none =>
              rw [hcs] at LN K3 hc10
              simp only [Option.isNone_none, if_true, Option.getD_none, Option.isSome_none] at LN K3 ⊢
              have Q := hid (rhead_any K3.out (fun W h => rt_own h) WI.out)
              unfold HPost at Q
              unfold headL at LN
              cases hH : headR WS with
              | none =>
                rw [hH] at LN Q
                simp only at LN
                rw [LN.out] at ga
                have fin : Hid (G = .bad (k + 1) 170) := hid (by rw [hGo.out]; exact ga)
                simp only [Option.getD_none, Option.isSome_none] at Q
                have I24 : Hid ((Tryz.prog.info? 24).map (·.size) = some (cI zC).toArray.size) := hid Tryz.i24
                have O24 := hid (cI_one zC)
                clear ga hGo LN WL WI hne hOk hH
                go_wp2_with (first | (go_at_call 21; refine Q.out.mono ?_; rintro e w4 ⟨rfl, A4⟩; have K4 := hid ((A4.addBlk (cI zC) 24).perm (perm_pd _ _ _ _ _ _ _)); clear A4; have H4 := hid K4.out.1.2.1; have K5 := hid (K4.out.setRow (vs' := plZ))) | (refine wpList_store_row rfl 24 _ _ rfl w4.heap.size (cI zC).toArray rfl rfl 24 _ (cfg_new2 w4) I24.out rfl O24.out ?_; rw [World.setRow_alloc_new]) | (refine wpList_build rfl 27 _ rfl (by kernel_rfl) ?_) | (refine wpList_store_row rfl 27 _ _ rfl R plZ.toArray rfl (by kernel_rfl) 27 _ H4.out IZ.out rfl OZ.out ?_))
                refine ret3 rfl rfl rfl rfl (ld27 K5.out.1.2.1 rfl) rfl ?_
                rw [fin.out]
                exact PPost.bad (n := k + 1) K5.out.tail.tail.tail.tail.tail.tail
              | some c =>
                have hcl := headR_len hH
                rw [hH] at LN Q
                simp only [Option.getD_some, Option.isSome_some] at Q
                simp only at LN
                have I24 : Hid ((Tryz.prog.info? 24).map (·.size) = some (cI c).toArray.size) := hid (by rw [Tryz.i24, List.size_toArray, cI_len, hcl])
                have Z24 : Hid ((#[.int .i64 0, .int .i64 0, .int .i64 0, .int .i64 0, .int .i64 0, .int .i64 0, .int .i64 0, .int .i64 0, .int .i64 0, .int .i64 0] : Array Value).size = (cI c).toArray.size) := hid (by show 10 = _; rw [List.size_toArray, cI_len, hcl])
                have O24 := hid (cI_one c)
                have QC : Hid (∀ W ds, All ds W → Calls Tryz.prog 22 #[.agg (cI c).toArray] W fun e w' => e = .returned (.int .i64 (cfgL c)) ∧ All ds w') := hid (fun W ds h => (cfgR_any hcl).mono fun e w' ⟨he, hb⟩ => ⟨he, h.later hb⟩)
                have S0 : Hid (setMid (cI zC ++ [v]) 0 (cI c) = cI c ++ [v]) := hid (pl_set0 rfl hcl)
                have L24 : Hid ((cI c).toArray.size = 10) := hid (by rw [List.size_toArray, cI_len, hcl])
                have OK' : Hid (PsOk ⟨some c, s.ss⟩) := hid ⟨hcl, hOk.out.2⟩
                by_cases hcf : cfgL c ≠ 0
                · rw [if_pos hcf, cfgL_42 hcf] at LN
                  rw [LN.out] at ga
                  have fin : Hid (G = .bad (k + 1) 42) := hid (by rw [hGo.out]; exact ga)
                  rw [cfgL_42 hcf] at QC
                  clear ga hGo LN WL WI hne hOk hH hcf S0 OK'
                  generalize cI c = CC at *
                  go_upto_region 18 with (first | (go_at_call 21; refine Q.out.mono ?_; rintro e w4 ⟨rfl, A4⟩; have K4' := hid (A4.addBlk CC 24); clear A4) | (refine wpList_store_row rfl 24 _ _ rfl w4.heap.size CC.toArray rfl rfl 24 _ (cfg_new2 w4) I24.out Z24.out O24.out ?_; rw [World.setRow_alloc_new]))
                  generalize w4.heap.size = CB at *
                  generalize w4.alloc (.cells CC.toArray 24) = w5 at *
                  have HC := hid K4'.out.1.2.1
                  go_wp2_with (first | (refine wpList_load_row rfl 24 _ rfl CB rfl 24 CC.toArray (0, 0) _ HC.out Tryz.underlying24 rfl I24.out ?_) | (go_at_call 22; refine (QC.out _ _ K4'.out).mono ?_; rintro e w6 ⟨rfl, A6⟩; have K4 := hid (A6.perm (perm_pd _ _ _ _ _ _ _)); clear A6; have H4 := hid K4.out.1.2.1; have K5 := hid (K4.out.setRow (vs' := plZ))) | (refine wpList_build rfl 27 _ rfl (by kernel_rfl) ?_) | (refine wpList_store_row rfl 27 _ _ rfl R plZ.toArray rfl (by kernel_rfl) 27 _ H4.out IZ.out rfl OZ.out ?_))
                  refine ret3 rfl rfl rfl rfl (ld27 K5.out.1.2.1 rfl) rfl ?_
                  rw [fin.out]
                  exact PPost.bad (n := k + 1) K5.out.tail.tail.tail.tail.tail.tail
                · have hcf0 : cfgL c = 0 := Classical.byContradiction hcf
                  rw [if_neg hcf] at LN
                  rw [LN.out] at ga
                  rw [hcf0] at QC
                  have nx : Hid (G = goL (k + 1) ⟨some c, s.ss⟩ (ls.drop (k + 1))) := hid (by rw [hGo.out]; exact ga)
                  clear ga hGo LN WL WI hne hOk hH hcf hcf0
                  generalize hCC : cI c = CC at *
                  have HCC := hid hCC
                  clear hCC
                  go_upto_region 18 with (first | (go_at_call 21; refine Q.out.mono ?_; rintro e w4 ⟨rfl, A4⟩; have K4' := hid (A4.addBlk CC 24); clear A4) | (refine wpList_store_row rfl 24 _ _ rfl w4.heap.size CC.toArray rfl rfl 24 _ (cfg_new2 w4) I24.out Z24.out O24.out ?_; rw [World.setRow_alloc_new]))
                  generalize w4.heap.size = CB at *
                  generalize w4.alloc (.cells CC.toArray 24) = w5 at *
                  have HC := hid K4'.out.1.2.1
                  go_upto_region 20 with (first | (refine wpList_load_row rfl 24 _ rfl CB rfl 24 CC.toArray (0, 0) _ HC.out Tryz.underlying24 rfl I24.out ?_) | (go_at_call 22; refine (QC.out _ _ K4'.out).mono ?_; rintro e w6 ⟨rfl, A6⟩; have K6 := hid A6; clear A6))
                  clear HC K4' Q QC
                  have HC := hid K6.out.1.2.1
                  have TH : Hid (w6.there P 0 CC.toArray.size) := hid (blk_there K6.out (.tail _ (.tail _ (.head _))) (by rw [L24.out]; simp [cI_len, zC_len]))
                  have K7 := hid ((K6.out.tail.tail).setMid CC (cI zC ++ [v]) 0)
                  rw [S0.out] at K7
                  go_wp2_with (first | (refine wpList_load_row rfl 24 _ rfl CB rfl 24 CC.toArray (0, 0) _ HC.out Tryz.underlying24 rfl I24.out ?_) | (refine wpList_store_mid rfl 24 _ _ rfl P 0 CC.toArray rfl rfl TH.out I24.out O24.out ?_))
                  go_roundw
                  case rel => exact ⟨k + 1, ⟨some c, s.ss⟩, v, by omega, by go_num, rfl, nx, OK', hid (by show All (blkC P (cI c ++ [v]) 27 :: _) _; rw [HCC.out]; exact K7.out)⟩
                  case measure => simp [intOf]; omega
            | some c =>
              rw [hcs] at LN K3 hc10
              simp only [Option.isNone_some, Bool.false_eq_true, if_false, Option.getD_some, Option.isSome_some] at LN K3 hc10 ⊢
              obtain ⟨a1, c1', rfl⟩ := owns_form (K3.out.tail.tail.1.2.1 : w3.ownsRow 0 43 10 v s.ss.length _)
              have YA : Hid (∀ u, (cI c ++ [u])[10]? = some u) := hid (fun u => pl_at10 hc10)
              have S10 : Hid (∀ u u', (cI c ++ [u]).set 10 u' = cI c ++ [u']) := hid (fun u u' => pl_set10 hc10)
              have y10 := (blk_at K3.out (.tail _ (.head _)) (YA.out _)).1
              have hn4 := hOk.out.2
              unfold stepL at LN
              by_cases h4 : s.ss.length = 4000
              · rw [if_pos h4] at LN
                rw [LN.out] at ga
                have fin : Hid (G = .bad (k + 1) 172) := hid (by rw [hGo.out]; exact ga)
                have K4 := hid (K3.out.perm (perm_pb _ _ _ _ _ _))
                have H4 := hid K4.out.1.2.1
                have K5 := hid (K4.out.setRow (vs' := plZ))
                rw [h4] at y10
                clear ga hGo LN WL WI hne hOk K3 K4 YA S10 h4 hn4
                go_wp2_with (first | (refine wpList_build rfl 27 _ rfl (by kernel_rfl) ?_) | (refine wpList_store_row rfl 27 _ _ rfl R plZ.toArray rfl (by kernel_rfl) 27 _ H4.out IZ.out rfl OZ.out ?_))
                refine ret3 rfl rfl rfl rfl (ld27 K5.out.1.2.1 rfl) rfl ?_
                rw [fin.out]
                exact PPost.bad (n := k + 1) K5.out.tail.tail.tail.tail.tail
              · rw [if_neg h4] at LN
                have h4i : ¬ (4000 : Int) ≤ (s.ss.length : Int) := by omega
                have h4j : (s.ss.length : Int) < 4000 := by omega
                have Q := hid (rstep_any K3.out (fun W h => rt_own h) hne.out (by have := WL.out; omega) WI.out)
                unfold SPost spV at Q
                generalize stepR WS = st at *
                have O := hid (sp_one st.1)
                have I : Hid ((Tryz.prog.info? 43).map (·.size) = some st.1.vals.toArray.size) := hid Tryz.i43
                have Z : Hid ((#[.int .i64 0, .int .i64 0, .int .i64 0, .int .i64 0, .int .i64 0, .int .i64 0, .string ⟨#[]⟩, .string ⟨#[]⟩, .int .i64 0, .int .i64 0] : Array Value).size = st.1.vals.toArray.size) := hid rfl
                have HN : Hid (∀ W : World, (W.alloc (.cells #[.int .i64 0, .int .i64 0, .int .i64 0, .int .i64 0, .int .i64 0, .int .i64 0, .string ⟨#[]⟩, .string ⟨#[]⟩, .int .i64 0, .int .i64 0] 43)).heap[W.heap.size]? = some (.cells #[.int .i64 0, .int .i64 0, .int .i64 0, .int .i64 0, .int .i64 0, .int .i64 0, .string ⟨#[]⟩, .string ⟨#[]⟩, .int .i64 0, .int .i64 0] 43 (0, 0))) := hid (fun W => heap_alloc_new W _)
                by_cases hE : st.2 ≠ 0
                · have hE' : (st.2 != 0) = true := by simpa using hE
                  rw [if_pos hE] at LN
                  rw [LN.out] at ga
                  have fin : Hid (G = .bad (k + 1) st.2) := hid (by rw [hGo.out]; exact ga)
                  clear ga hGo LN WL WI hne hOk K3 YA S10 h4 hn4 hE
                  generalize st.1.vals = SV at *
                  generalize st.2 = SE at *
                  generalize s.ss.length = ns at *
                  go_wp2_with (first | (go_at_call 23; refine Q.out.mono ?_; rintro e w4 ⟨rfl, A4⟩; have K4 := hid ((A4.addBlk SV 43).perm (perm_pd _ _ _ _ _ _ _)); clear A4; have H4 := hid K4.out.1.2.1; have K5 := hid (K4.out.setRow (vs' := plZ))) | (refine wpList_store_row rfl 43 _ _ rfl w4.heap.size SV.toArray rfl rfl 43 _ (HN.out w4) I.out Z.out O.out ?_; rw [World.setRow_alloc_new]) | (refine wpList_build rfl 27 _ rfl (by kernel_rfl) ?_) | (refine wpList_store_row rfl 27 _ _ rfl R plZ.toArray rfl (by kernel_rfl) 27 _ H4.out IZ.out rfl OZ.out ?_))
                  refine ret3 rfl rfl rfl rfl (ld27 K5.out.1.2.1 rfl) rfl ?_
                  rw [fin.out]
                  exact PPost.bad (n := k + 1) K5.out.tail.tail.tail.tail.tail.tail
                · have hE0 : st.2 = 0 := Classical.byContradiction hE
                  rw [if_neg hE] at LN
                  rw [LN.out] at ga
                  rw [hE0] at Q
                  have nx : Hid (G = goL (k + 1) ⟨some c, s.ss ++ [st.1]⟩ (ls.drop (k + 1))) := hid (by rw [hGo.out]; rw [hcs] at ga; exact ga)
                  have OK' : Hid (PsOk ⟨some c, s.ss ++ [st.1]⟩) := hid ⟨hc10, by simp only [List.length_append, List.length_cons, List.length_nil]; omega⟩
                  have NL : Hid ((s.ss.length + 1) * 96 ≤ 140737488355328) := hid (by omega)
                  obtain ⟨y, hy⟩ : ∃ y, y = st.1 := ⟨_, rfl⟩
                  rw [← hy] at Q O I Z nx OK'
                  clear ga hGo LN WL WI hne hOk K3 h4 hn4 hE hE0 hy
                  generalize hnn : s.ss.length = ns at *
                  have HNN := hid hnn
                  clear hnn
                  go_upto_region 27 with (first | (go_at_call 23; refine Q.out.mono ?_; rintro e w4 ⟨rfl, A4⟩; have K4 := hid (A4.addBlk y.vals 43); clear A4) | (refine wpList_store_row rfl 43 _ _ rfl w4.heap.size y.vals.toArray rfl rfl 43 _ (HN.out w4) I.out Z.out O.out ?_; rw [World.setRow_alloc_new]))
                  clear Q HN Z y10 O I h4i h4j
                  generalize w4.heap.size = G4 at *
                  generalize w4.alloc (.cells y.vals.toArray 43) = W at *
                  have s0 := (blk_at (j := 0) K4.out (.head _) rfl).1
                  have s1 := (blk_at (j := 1) K4.out (.head _) rfl).1
                  have s2 := (blk_at (j := 2) K4.out (.head _) rfl).1
                  have s3 := (blk_at (j := 3) K4.out (.head _) rfl).1
                  have s4 := (blk_at (j := 4) K4.out (.head _) rfl).1
                  have s5 := (blk_at (j := 5) K4.out (.head _) rfl).1
                  have s6 := (blk_at (j := 6) K4.out (.head _) rfl).1
                  have s7 := (blk_at (j := 7) K4.out (.head _) rfl).1
                  have s8 := (blk_at (j := 8) K4.out (.head _) rfl).1
                  obtain ⟨s9, _, hGW⟩ := blk_at (j := 9) K4.out (.head _) rfl
                  obtain ⟨t10, tf, hBW⟩ := blk_at K4.out (.tail _ (.tail _ (.head _))) (YA.out _)
                  obtain ⟨ao', c', w', hr, A3⟩ := app_sp (W := W.alloc (.cells y.vals.toArray 43)) (K := W.heap.size) (x := y) (l := s.ss) (v := .slice a1 ns c1') (cs := blkC P (cI c ++ [.slice a1 ns c1']) 27 :: ownC 9 (.slice (some ⟨g, o, none⟩) nl c1) (txW ls) :: blkC R plZ 27 :: cs) ((K4.out.tail.tail.swap).alloc _) (heap_alloc_new W _) (by rw [HNN.out]; exact NL.out)
                  rw [HNN.out] at hr A3
                  obtain ⟨t3, f3, _⟩ := blk_at A3 (.tail _ (.head _)) (YA.out _)
                  have A4 := hid (A3.swap.setBlk 10 (.slice ao' (ns + 1) c'))
                  rw [S10.out] at A4
                  have HR := hid hr
                  clear K4 A3 hr S10 YA NL
                  generalize hX1 : ByteArray.mk y.o.nm.toArray = X1 at *
                  generalize hX2 : ByteArray.mk y.o.tx.toArray = X2 at *
                  have HRR := HR
                  unfold Sp.vals at HRR
                  rw [hX1, hX2] at HRR
                  clear hX1 hX2
                  go_wp2_with (at_builtin; refine wpList_append_run rfl _ _ 25 rfl _ _ _ _ rfl rfl HRR.out ?_)
                  go_roundw
                  case rel => exact ⟨k + 1, ⟨some c, s.ss ++ [y]⟩, .slice ao' (ns + 1) c', by omega, by go_num, rfl, nx, OK', A4⟩
                  case measure => simp [intOf]; omega
      · have hlt' : ¬ (k : Int) < (nl : Int) := by omega
        have ek : Hid (k = nl) := hid (by omega)
        have ed : ls.drop k = [] := DL.out k (by omega)
        rw [ed] at hGo
        cases hc : s.c with
        | none =>
          have fin : Hid (G = .bad nl 170) := hid (by rw [hGo.out, goL, hc]; simp only; rw [← ek.out])
          simp only [Option.isSome_none]
          have K4 := hid (HA.out.perm (perm_pc _ _ _ _ _))
          have H4 := hid K4.out.1.2.1
          have K5 := hid (K4.out.setRow (vs' := plZ))
          clear ed hGo HA GA DL CE K4
          go_wp2_with (first | (refine wpList_build rfl 27 _ rfl (by kernel_rfl) ?_) | (refine wpList_store_row rfl 27 _ _ rfl R plZ.toArray rfl (by kernel_rfl) 27 _ H4.out IZ.out rfl OZ.out ?_))
          refine ret3 rfl rfl rfl rfl (ld27 K5.out.1.2.1 rfl) rfl ?_
          rw [fin.out]
          exact PPost.bad K5.out.tail.tail.tail.tail
        | some cc =>
          have fin : Hid (G = .ok cc s.ss) := hid (by rw [hGo.out, goL, hc])
          have hcl : cc.length = 10 := by have := hOk.out.1; rw [hc] at this; exact this
          rw [hc] at HA
          simp only [Option.isSome_some, Option.getD_some] at HA ⊢
          obtain ⟨a1, c1', rfl⟩ := owns_form (HA.out.tail.1.2.1 : wr.ownsRow 0 43 10 v s.ss.length _)
          have II : Hid ((Tryz.prog.info? 27).map (·.size) = some (cI cc ++ [Value.slice a1 s.ss.length c1']).toArray.size) := hid (by rw [Tryz.i27]; simp [cI_len, hcl])
          have OO := hid (pl_one cc a1 s.ss.length c1')
          have ZZ : Hid (plZ.toArray.size = (cI cc ++ [Value.slice a1 s.ss.length c1']).toArray.size) := hid (by show 11 = _; simp [cI_len, hcl])
          have LZ : Hid ((cI cc ++ [Value.slice a1 s.ss.length c1']).toArray.size = 11) := hid (by simp [cI_len, hcl])
          have HP := hid HA.out.1.2.1
          have K4 := hid (HA.out.perm (perm_pc _ _ _ _ _))
          have H4 := hid K4.out.1.2.1
          have K5 := hid (K4.out.setRow (vs' := cI cc ++ [Value.slice a1 s.ss.length c1']))
          have FI : Hid (∀ W, All (blkC R (cI cc ++ [Value.slice a1 s.ss.length c1']) 27 :: blkC P (cI cc ++ [Value.slice a1 s.ss.length c1']) 27 :: spC (.slice a1 s.ss.length c1') s.ss :: ownC 9 (.slice ao1 nl c1) (txW ls) :: cs) W → PPost G cs (.returned (.tuple #[.agg (cI cc ++ [Value.slice a1 s.ss.length c1']).toArray, .int .i64 0, .int .i64 0])) W) := hid (fun W h => by
            rw [fin.out]
            exact ⟨_, rfl, h.tail.tail.del⟩)
          clear ed hGo HA K4 fin hOk hc GA DL CE
          generalize cI cc ++ [Value.slice a1 s.ss.length c1'] = PV at *
          go_wp2_with (first | (refine wpList_load_row rfl 27 _ rfl P rfl 27 PV.toArray (0, 0) _ HP.out Tryz.underlying27 rfl II.out ?_) | (refine wpList_store_row rfl 27 _ _ rfl R PV.toArray rfl rfl 27 _ H4.out II.out ZZ.out OO.out ?_))
          refine ret3 rfl rfl rfl rfl (ld27 K5.out.1.2.1 LZ.out) rfl ?_
          exact FI.out _ K5.out
end Go.Proofs.YtblojlaifnmimaaGreatDoor

import Derived.Test.YtgmjjopfpenceabDoorE3
namespace Go.Proofs.YtgmjjopfpenceabDoor
open Go.RowKit
set_option linter.unusedVariables false

theorem codeW_idx (x : List UInt8) : findW x 0 (cdN.drop 0) = codeW x := by rw [List.drop_zero]; rfl
theorem rNumber21 {l : List UInt8} {w : World} (hl : l.length ≤ 140737488355328) : Calls Tryd.prog 21 #[.string ⟨l.toArray⟩] w fun e w' => e = .returned (numA l) ∧ w' = w := rNumber_any hl
theorem bad3 {fn : Func} (hf : fn.results = #[.cell 2 24, .tmp 3, .tmp 4]) {cs : List Comp} {a : Act} {w : World} {B : Nat} {e : Int} (A : All (blkC B [.int .i64 0, .int .i64 0, .slice none 0 0] 24 :: cs) w) (ht : a.tmps.getD 2 undef = ptr B) (h3 : a.tmps.getD 3 undef = .int .i64 0) (h4 : a.tmps.getD 4 undef = .int .i64 e) (hd : a.defers = []) : bodyPost Tryd.prog fn (RRPost (.bad e) cs) .ret a (((w.setCell ⟨B, 0, none⟩ (.int .i64 0)).setCell ⟨B, 1, none⟩ (.int .i64 0)).setCell ⟨B, 2, none⟩ (.slice none 0 0)) :=
  ret_cell3 hf ht h3 h4 (set3 A).1.2.1 hd ⟨_, rfl, All.addNil (set3 A).tail⟩

set_option maxHeartbeats 3200000 in
set_option maxRecDepth 1000000 in
theorem rReadResult_any {s : Value} {l : Ws} {cs : List Comp} {w : World} (A : All cs w) (h : Rt w s l) (hl : l.length * 16 ≤ 140737488355328) (hs : ∀ x ∈ l, x.length ≤ 140737488355328) :
    Calls Tryd.prog 11 #[s] w (RRPost (readR l) cs) := by
  obtain ⟨ao, c, rfl⟩ := h.form
  have A0 := hid (A.addBlk [.int .i64 0, .int .i64 0, .slice none 0 0] 24)
  by_cases h0 : l = []
  · subst h0
    rw [readR_nil]
    clear A h hl hs
    go_enter Tryd.func11, Tryd.ntmps11
    go_wp2
    exact ret_cell3 rfl rfl rfl rfl A0.out.1.2.1 rfl ⟨_, rfl, All.addNil A0.out.tail⟩
  have hpos : 0 < l.length := List.length_pos_iff.2 h0
  rw [readR_cons h0]
  have n0 : ((l.length : Int) == 0) = false := by simp; exact h0
  have bw := ba w (.cells #[.int .i64 0, .int .i64 0, .slice none 0 0] 24)
  obtain ⟨g, o, hg, hgl, hcellw⟩ := h.at (j := 0) hpos
  subst hg
  rw [Nat.add_zero] at hcellw
  have hcell0 := cell_under bw hgl hcellw
  have H0 := hid (h.later bw)
  have C16 : Hid (Calls Tryd.prog 16 #[] (w.alloc (.cells #[.int .i64 0, .int .i64 0, .slice none 0 0] 24)).drew fun e w' => ∃ ao1 c1, e = .returned (.slice ao1 5 c1) ∧ w'.cell? ⟨g, o, none⟩ = some (.string ⟨(l.getD 0 []).toArray⟩) ∧ Hid (Calls Tryd.prog 20 #[.slice ao1 5 c1, .int .i64 0, .string ⟨(l.getD 0 []).toArray⟩] w' fun e w2 => e = .returned (.int .i64 (idxI (codeW (l.getD 0 [])))) ∧ w2 = w') ∧ Hid (All (blkC w.heap.size [.int .i64 0, .int .i64 0, .slice none 0 0] 24 :: cs) w') ∧ ((w'.cell? ⟨w.heap.size, 0, none⟩ = some (.int .i64 0) ∧ w'.cell? ⟨w.heap.size, 1, none⟩ = some (.int .i64 0) ∧ w'.cell? ⟨w.heap.size, 2, none⟩ = some (.slice none 0 0)) ∧ w'.frozen? ⟨w.heap.size, 0, none⟩ = false ∧ w'.frozen? ⟨w.heap.size, 1, none⟩ = false ∧ w'.frozen? ⟨w.heap.size, 2, none⟩ = false ∧ w.heap.size < w'.heap.size) ∧ Hid (Below (w.alloc (.cells #[.int .i64 0, .int .i64 0, .slice none 0 0] 24)).heap.size (w.alloc (.cells #[.int .i64 0, .int .i64 0, .slice none 0 0] 24)) w')) := hid (by
    refine Calls.mono codes_any ?_
    rintro e w' ⟨rfl, rfl⟩
    refine ⟨_, _, rfl, cell_under (ba (w.alloc (.cells #[.int .i64 0, .int .i64 0, .slice none 0 0] 24)).drew _) (by have := bw.size; show g < (w.alloc (.cells #[.int .i64 0, .int .i64 0, .slice none 0 0] 24)).heap.size; omega) hcell0, hid ?_, hid (A0.out.drew.alloc _), zero_blk (A0.out.drew.alloc _), hid ((bd _).trans (ba (w.alloc (.cells #[.int .i64 0, .int .i64 0, .slice none 0 0] 24)).drew _))⟩
    have := index_any (x := l.getD 0 []) (f := 0) (rt_codes (w.alloc (.cells #[.int .i64 0, .int .i64 0, .slice none 0 0] 24)).drew) (by simp [cdN]) (by omega)
    rw [codeW_idx] at this
    exact this)
  have RN : Hid (∀ p W, p < l.length → Calls Tryd.prog 21 #[.string ⟨(l.getD p []).toArray⟩] W fun e w' => e = .returned (numA (l.getD p [])) ∧ w' = W) := hid (fun p W hp => rNumber21 (hs _ (by
    have : l.getD p [] = l[p] := by simp [List.getD, hp]
    rw [this]; exact List.getElem_mem hp)))
  have HA : Hid (∀ p W, p < l.length → Below (w.alloc (.cells #[.int .i64 0, .int .i64 0, .slice none 0 0] 24)).heap.size (w.alloc (.cells #[.int .i64 0, .int .i64 0, .slice none 0 0] 24)) W → W.cell? ⟨g, o + p, none⟩ = some (.string ⟨(l.getD p []).toArray⟩)) := hid (fun p W hp hb => by
    obtain ⟨g', o', e', _, hc⟩ := (H0.out.later hb).at (j := p) hp
    simp only [Option.some.injEq, Addr.mk.injEq, and_true] at e'
    obtain ⟨rfl, rfl⟩ := e'
    exact hc)
  cases hc : codeW (l.getD 0 []) with
  | none =>
    simp only
    rw [hc] at C16
    have i1 : idxI none = -1 := rfl
    rw [i1] at C16
    clear A h hs hc h0 RN HA i1 hgl hcellw bw H0
    generalize ByteArray.mk (l.getD 0 []).toArray = X at *
    generalize l.length = n at *
    go_enter Tryd.func11, Tryd.ntmps11
    go_wp2
    go_region_law (go_simp; first | (go_at_call 16; refine C16.out.mono ?_; rintro e w1 ⟨ao1, c1, rfl, hc1, I1, A1, ⟨⟨z0, z1, z2⟩, f0, f1, f2, hlt⟩, B1⟩) | (go_at_call 20; refine I1.out.mono ?_; rintro e w2 ⟨rfl, hw2⟩; subst w2))
    all_goals (go_wp2; exact bad3 rfl A1.out rfl rfl rfl rfl)
  | some k =>
    rw [hc] at C16
    have i1 : idxI (some k) = (k : Int) := rfl
    rw [i1] at C16
    cases k with
    | succ k =>
      simp only
      have ek : ((k + 1 : Nat) : Int) = (k : Int) + 1 := by omega
      have nk : ((k : Int) + 1 != 0) = true := by simp; omega
      have nk2 : ¬ (k : Int) + 1 < 0 := by omega
      rw [ek] at C16
      clear A h hs hc h0 RN HA i1 hgl hcellw bw H0 ek
      generalize ByteArray.mk (l.getD 0 []).toArray = X at *
      generalize l.length = n at *
      go_enter Tryd.func11, Tryd.ntmps11
      go_wp2
      go_region_law (go_simp; first | (go_at_call 16; refine C16.out.mono ?_; rintro e w1 ⟨ao1, c1, rfl, hc1, I1, A1, ⟨⟨z0, z1, z2⟩, f0, f1, f2, hlt⟩, B1⟩) | (go_at_call 20; refine I1.out.mono ?_; rintro e w2 ⟨rfl, hw2⟩; subst w2))
      all_goals (go_wp2; exact ret_cell3 rfl rfl rfl rfl (set3 A1.out).1.2.1 rfl ⟨_, rfl, All.addNil (set3 A1.out).tail⟩)
    | zero =>
      simp only
      have e0 : ((0 : Nat) : Int) = 0 := rfl
      rw [e0] at C16
      have HA1 := HA.out 1
      have HA2 := HA.out 2
      have RN1 := RN.out 1
      have RN2 := RN.out 2
      clear i1 e0 hc
      unfold numA at RN1 RN2
      by_cases h2 : l.length < 2
      · have e1 : readD l = .bad 162 := by unfold readD; rw [if_pos h2]
        rw [e1]
        have h2' : (l.length : Int) < 2 := by omega
        clear A h hs h0 RN HA hgl hcellw bw H0 e1 HA1 HA2 RN1 RN2
        generalize ByteArray.mk (l.getD 0 []).toArray = X at *
        generalize l.length = n at *
        go_enter Tryd.func11, Tryd.ntmps11
        go_wp2
        go_region_law (go_simp; first | (go_at_call 16; refine C16.out.mono ?_; rintro e w1 ⟨ao1, c1, rfl, hc1, I1, A1, ⟨⟨z0, z1, z2⟩, f0, f1, f2, hlt⟩, B1⟩) | (go_at_call 20; refine I1.out.mono ?_; rintro e w2 ⟨rfl, hw2⟩; subst w2))
        all_goals (go_wp2; exact bad3 rfl A1.out rfl rfl rfl rfl)
      have h2' : ¬ (l.length : Int) < 2 := by omega
      have HB1 : Hid (∀ W, Below (w.alloc (.cells #[.int .i64 0, .int .i64 0, .slice none 0 0] 24)).heap.size (w.alloc (.cells #[.int .i64 0, .int .i64 0, .slice none 0 0] 24)) W → W.cell? ⟨g, o + 1, none⟩ = some (.string ⟨(l.getD 1 []).toArray⟩)) := hid (fun W hb => HA1 W (by omega) hb)
      have RB1 := hid (fun W => RN1 W (by omega))
      clear HA1 RN1
      cases hn1 : numW (l.getD 1 []) with
      | none =>
        have e1 : readD l = .bad 163 := by unfold readD; rw [if_neg h2, hn1]
        rw [e1]
        rw [hn1] at RB1
        simp only [Option.getD_none, Option.isSome_none] at RB1
        clear A h hs h0 RN HA hgl hcellw bw H0 e1 HA2 RN2 hn1
        generalize ByteArray.mk (l.getD 0 []).toArray = X at *
        generalize ByteArray.mk (l.getD 1 []).toArray = X1 at *
        generalize l.length = n at *
        go_enter Tryd.func11, Tryd.ntmps11
        go_wp2
        go_region_law (go_simp; first | (go_at_call 16; refine C16.out.mono ?_; rintro e w1 ⟨ao1, c1, rfl, hc1, I1, A1, ⟨⟨z0, z1, z2⟩, f0, f1, f2, hlt⟩, B1⟩) | (go_at_call 20; refine I1.out.mono ?_; rintro e w2 ⟨rfl, hw2⟩; subst w2))
        all_goals (have d1 := HB1.out _ B1.out; go_wp2_with (go_at_call 21; refine (RB1.out _).mono ?_; rintro e w3 ⟨rfl, hw3⟩; subst w3); exact bad3 rfl A1.out rfl rfl rfl rfl)
      | some z =>
        rw [hn1] at RB1
        simp only [Option.getD_some, Option.isSome_some] at RB1
        have hz63 := numW_le hn1
        by_cases h3 : l.length < 3
        · have e1 : readD l = .bad 162 := by unfold readD; rw [if_neg h2, hn1]; simp only; rw [if_pos h3]
          rw [e1]
          have h3' : (l.length : Int) < 3 := by omega
          clear A h hs h0 RN HA hgl hcellw bw H0 e1 HA2 RN2 hn1
          generalize ByteArray.mk (l.getD 0 []).toArray = X at *
          generalize ByteArray.mk (l.getD 1 []).toArray = X1 at *
          generalize l.length = n at *
          go_enter Tryd.func11, Tryd.ntmps11
          go_wp2
          go_region_law (go_simp; first | (go_at_call 16; refine C16.out.mono ?_; rintro e w1 ⟨ao1, c1, rfl, hc1, I1, A1, ⟨⟨z0, z1, z2⟩, f0, f1, f2, hlt⟩, B1⟩) | (go_at_call 20; refine I1.out.mono ?_; rintro e w2 ⟨rfl, hw2⟩; subst w2))
          all_goals (have d1 := HB1.out _ B1.out; go_wp2_with (go_at_call 21; refine (RB1.out _).mono ?_; rintro e w3 ⟨rfl, hw3⟩; subst w3); exact bad3 rfl A1.out rfl rfl rfl rfl)
        have h3' : ¬ (l.length : Int) < 3 := by omega
        have HB2 : Hid (∀ W, Below (w.alloc (.cells #[.int .i64 0, .int .i64 0, .slice none 0 0] 24)).heap.size (w.alloc (.cells #[.int .i64 0, .int .i64 0, .slice none 0 0] 24)) W → W.cell? ⟨g, o + 2, none⟩ = some (.string ⟨(l.getD 2 []).toArray⟩)) := hid (fun W hb => HA2 W (by omega) hb)
        have RB2 := hid (fun W => RN2 W (by omega))
        clear HA2 RN2
        cases hn2 : numW (l.getD 2 []) with
        | none =>
          have e1 : readD l = .bad 163 := by unfold readD; rw [if_neg h2, hn1]; simp only; rw [if_neg h3, hn2]
          rw [e1]
          rw [hn2] at RB2
          simp only [Option.getD_none, Option.isSome_none] at RB2
          clear A h hs h0 RN HA hgl hcellw bw H0 e1 hn1 hn2
          generalize ByteArray.mk (l.getD 0 []).toArray = X at *
          generalize ByteArray.mk (l.getD 1 []).toArray = X1 at *
          generalize ByteArray.mk (l.getD 2 []).toArray = X2 at *
          generalize l.length = n at *
          go_enter Tryd.func11, Tryd.ntmps11
          go_wp2
          go_region_law (go_simp; first | (go_at_call 16; refine C16.out.mono ?_; rintro e w1 ⟨ao1, c1, rfl, hc1, I1, A1, ⟨⟨z0, z1, z2⟩, f0, f1, f2, hlt⟩, B1⟩) | (go_at_call 20; refine I1.out.mono ?_; rintro e w2 ⟨rfl, hw2⟩; subst w2))
          all_goals (have d1 := HB1.out _ B1.out; have d2 := HB2.out _ B1.out; go_wp2_with (go_at_call 21; refine (RB1.out _).mono ?_; rintro e w3 ⟨rfl, hw3⟩; subst w3; refine Hid.out ?_); refine hid ?_; go_wp2_with (go_at_call 21; refine (RB2.out _).mono ?_; rintro e w3 ⟨rfl, hw3⟩; subst w3); exact bad3 rfl A1.out rfl rfl rfl rfl)
        | some m =>
          rw [hn2] at RB2
          simp only [Option.getD_some, Option.isSome_some] at RB2
          have hm63 := numW_le hn2
          have e4 : readD l = if l.length < m + 3 then .bad 162 else if chkW 0 z ((l.drop 3).take m) ≠ 0 then .bad (chkW 0 z ((l.drop 3).take m)) else ⟨0, z, (l.drop 3).take m, 3 + m, 0⟩ := by
            unfold readD; rw [if_neg h2, hn1]; simp only; rw [if_neg h3, hn2]
          rw [e4]
          by_cases hm : l.length < m + 3
          · rw [if_pos hm]
            have hm' : (l.length : Int) - 3 < (m : Int) := by omega
            clear A h hs h0 RN HA hgl hcellw bw H0 e4 hn1 hn2
            generalize ByteArray.mk (l.getD 0 []).toArray = X at *
            generalize ByteArray.mk (l.getD 1 []).toArray = X1 at *
            generalize ByteArray.mk (l.getD 2 []).toArray = X2 at *
            generalize l.length = n at *
            go_enter Tryd.func11, Tryd.ntmps11
            go_wp2
            go_region_law (go_simp; first | (go_at_call 16; refine C16.out.mono ?_; rintro e w1 ⟨ao1, c1, rfl, hc1, I1, A1, ⟨⟨z0, z1, z2⟩, f0, f1, f2, hlt⟩, B1⟩) | (go_at_call 20; refine I1.out.mono ?_; rintro e w2 ⟨rfl, hw2⟩; subst w2))
            all_goals (have d1 := HB1.out _ B1.out; have d2 := HB2.out _ B1.out; go_wp2_with (go_at_call 21; refine (RB1.out _).mono ?_; rintro e w3 ⟨rfl, hw3⟩; subst w3; refine Hid.out ?_); refine hid ?_; go_wp2_with (go_at_call 21; refine (RB2.out _).mono ?_; rintro e w3 ⟨rfl, hw3⟩; subst w3); exact bad3 rfl A1.out rfl rfl rfl rfl)
          · rw [if_neg hm]
            have hm' : ¬ (l.length : Int) - 3 < (m : Int) := by omega
            have htl : ((l.drop 3).take m).length = m := by rw [List.length_take, List.length_drop]; omega
            obtain ⟨ao5, c5, hcut, HC⟩ := cut_lh (a := 3) (b := m) (x := 3) (y := 3 + (m : Int)) H0.out (by omega) rfl (by omega)
            have AP : Hid (∀ W, Below (w.alloc (.cells #[.int .i64 0, .int .i64 0, .slice none 0 0] 24)).heap.size (w.alloc (.cells #[.int .i64 0, .int .i64 0, .slice none 0 0] 24)) W → All (blkC w.heap.size [.int .i64 0, .int .i64 0, .slice none 0 0] 24 :: cs) W → ∃ ao6 c6 w6, (Builtin.append_ #[22, 22] 22 #[.slice none 0 0, .slice ao5 m c5]).run Tryd.prog W = .ok (.slice ao6 m c6) w6 ∧ Hid (All (ownC 9 (.slice ao6 m c6) (txW ((l.drop 3).take m)) :: blkC w.heap.size [.int .i64 0, .int .i64 0, .slice none 0 0] 24 :: cs) w6)) := hid (fun W hb hA => by
              obtain ⟨ao6, c6, w6, hr, A6⟩ := appR (l := []) (All.addNil (e := 9) hA) (HC.later hb) (by rw [htl]; simp; omega)
              rw [List.length_nil, Nat.zero_add, htl] at hr A6
              rw [List.nil_append] at A6
              exact ⟨ao6, c6, w6, hr, hid A6⟩)
            have CK : Hid (∀ W ao6 c6 ds, All (ownC 9 (.slice ao6 m c6) (txW ((l.drop 3).take m)) :: ds) W → Calls Tryd.prog 15 #[resV 0 (z : Int) (.slice ao6 m c6)] (W.alloc (.cells #[.int .i64 0, .int .i64 (z : Int), .slice ao6 m c6] 24)) fun e w' => e = .returned (.int .i64 (chkW 0 z ((l.drop 3).take m))) ∧ Below (W.alloc (.cells #[.int .i64 0, .int .i64 (z : Int), .slice ao6 m c6] 24)).heap.size (W.alloc (.cells #[.int .i64 0, .int .i64 (z : Int), .slice ao6 m c6] 24)) w') := hid (fun W ao6 c6 ds hA => check15 0 z ((rt_own hA).later (ba W _)) (by rw [htl]; omega))
            generalize chkW 0 z ((l.drop 3).take m) = XX at *
            have wa : IntKind.i64.wrap (3 + (m : Int)) = 3 + m := by rw [IntKind.wrap_i64]; omega
            have ek : Hid (((3 + m : Nat) : Int) = 3 + (m : Int)) := hid (by omega)
            clear A h hs h0 RN HA hgl hcellw bw H0 e4 hn1 hn2 HC htl
            generalize (l.drop 3).take m = IT at *
            generalize ByteArray.mk (l.getD 0 []).toArray = X at *
            generalize ByteArray.mk (l.getD 1 []).toArray = X1 at *
            generalize ByteArray.mk (l.getD 2 []).toArray = X2 at *
            generalize l.length = n at *
            by_cases hX0 : XX ≠ 0
            · rw [if_pos hX0]
              have hX' : (XX != 0) = true := by simpa using hX0
              clear hX0
              go_enter Tryd.func11, Tryd.ntmps11
              go_wp2
              go_region_law (go_simp; first | (go_at_call 16; refine C16.out.mono ?_; rintro e w1 ⟨ao1, c1, rfl, hc1, I1, A1, ⟨⟨z0, z1, z2⟩, f0, f1, f2, hlt⟩, B1⟩) | (go_at_call 20; refine I1.out.mono ?_; rintro e w2 ⟨rfl, hw2⟩; subst w2))
              all_goals (have d1 := HB1.out _ B1.out; have d2 := HB2.out _ B1.out; go_wp2_with (go_at_call 21; refine (RB1.out _).mono ?_; rintro e w3 ⟨rfl, hw3⟩; subst w3; refine Hid.out ?_); refine hid ?_; go_wp2_with (go_at_call 21; refine (RB2.out _).mono ?_; rintro e w3 ⟨rfl, hw3⟩; subst w3; refine Hid.out ?_); refine hid ?_; obtain ⟨ao6, c6, w6, hr6, A6⟩ := AP.out _ B1.out A1.out; have R6 := hid hr6; clear hr6; have Q7 := hid (CK.out w6 ao6 c6 _ A6.out); have A7 := hid (A6.out.addBlk [.int .i64 0, .int .i64 (z : Int), .slice ao6 m c6] 24); go_wp2_with (first | (at_builtin; refine wpList_append_run rfl _ _ 22 rfl _ _ _ _ rfl rfl R6.out ?_) | (go_at_call 15; refine Q7.out.mono ?_; rintro e w8 ⟨rfl, B8⟩; have A8 := hid ((A7.out.later B8).perm (perm3a _ _ _ _)); clear B8; refine Hid.out ?_)); refine hid ?_; obtain ⟨⟨z0, z1, z2⟩, f0, f1, f2, hlt⟩ := zero_blk A8.out; go_wp2; exact ret_cell3 rfl rfl rfl rfl (set3 A8.out).1.2.1 rfl ⟨_, rfl, All.addNil (set3 A8.out).tail.tail.tail⟩)
            · rw [if_neg hX0]
              have hX' : XX = 0 := Classical.byContradiction hX0
              subst hX'
              clear hX0
              go_enter Tryd.func11, Tryd.ntmps11
              go_wp2
              go_region_law (go_simp; first | (go_at_call 16; refine C16.out.mono ?_; rintro e w1 ⟨ao1, c1, rfl, hc1, I1, A1, ⟨⟨z0, z1, z2⟩, f0, f1, f2, hlt⟩, B1⟩) | (go_at_call 20; refine I1.out.mono ?_; rintro e w2 ⟨rfl, hw2⟩; subst w2))
              all_goals (have d1 := HB1.out _ B1.out; have d2 := HB2.out _ B1.out; go_wp2_with (go_at_call 21; refine (RB1.out _).mono ?_; rintro e w3 ⟨rfl, hw3⟩; subst w3; refine Hid.out ?_); refine hid ?_; go_wp2_with (go_at_call 21; refine (RB2.out _).mono ?_; rintro e w3 ⟨rfl, hw3⟩; subst w3; refine Hid.out ?_); refine hid ?_; obtain ⟨ao6, c6, w6, hr6, A6⟩ := AP.out _ B1.out A1.out; have R6 := hid hr6; clear hr6; have Q7 := hid (CK.out w6 ao6 c6 _ A6.out); have A7 := hid (A6.out.addBlk [.int .i64 0, .int .i64 (z : Int), .slice ao6 m c6] 24); go_wp2_with (first | (at_builtin; refine wpList_append_run rfl _ _ 22 rfl _ _ _ _ rfl rfl R6.out ?_) | (go_at_call 15; refine Q7.out.mono ?_; rintro e w8 ⟨rfl, B8⟩; have A8 := hid ((A7.out.later B8).perm (perm3a _ _ _ _)); clear B8; refine Hid.out ?_)); refine hid ?_; obtain ⟨⟨z0, z1, z2⟩, f0, f1, f2, hlt⟩ := zero_blk A8.out; have A9 := hid (set3 (x := .int .i64 0) (y := .int .i64 (z : Int)) (z := .slice ao6 m c6) A8.out); have hbh := A8.out.tail.1.2.1; have y0 : w8.cell? ⟨w6.heap.size, 0, none⟩ = some (.int .i64 0) := (by rw [cell_at hbh]; rfl); have y1 : w8.cell? ⟨w6.heap.size, 1, none⟩ = some (.int .i64 (z : Int)) := (by rw [cell_at hbh]; rfl); have y2 : w8.cell? ⟨w6.heap.size, 2, none⟩ = some (.slice ao6 m c6) := (by rw [cell_at hbh]; rfl); clear hbh; go_wp2; exact ret_cell3 rfl rfl rfl rfl A9.out.1.2.1 rfl ⟨_, by show _ = Ending.returned (.tuple #[resV 0 (z : Int) _, .int .i64 ((3 + m : Nat) : Int), .int .i64 0]); rw [ek.out]; rfl, A9.out.tail.tail⟩)
end Go.Proofs.YtgmjjopfpenceabDoor

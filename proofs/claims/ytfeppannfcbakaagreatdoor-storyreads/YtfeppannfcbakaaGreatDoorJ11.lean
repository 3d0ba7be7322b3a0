import Derived.Test.YtfeppannfcbakaaGreatDoorJ10
import Derived.Test.YtfeppannfcbakaaGreatDoorJ7
import Derived.Test.YtfeppannfcbakaaGreatDoorD13r
import Derived.Test.YtfeppannfcbakaaGreatDoorJ8
import Derived.Test.YtfeppannfcbakaaGreatDoorJ1
import Derived.Deep.Draws
import Derived.Deep.Upon
namespace Go.Proofs.YtfeppannfcbakaaGreatDoor
open Go.RowKit
set_option linter.unusedVariables false
set_option maxRecDepth 1000000
set_option maxHeartbeats 3200000
theorem codeW_idx (x : List UInt8) : findW x 0 (cdN.drop 0) = codeW x := by rw [List.drop_zero]; rfl
theorem rNumber21 {l : List UInt8} {w : World} (hl : l.length ≤ 140737488355328) : Calls Tryz.prog 52 #[.string ⟨l.toArray⟩] w fun e w' => e = .returned (numA l) ∧ w' = w := rNumber_any hl
theorem bad3 {fn : Func} (hf : fn.results = #[.cell 2 29, .tmp 3, .tmp 4]) {cs : List Comp} {a : Act} {w : World} {B : Nat} {e : Int} (A : All (blkC B [.int .i64 0, .int .i64 0, .slice none 0 0] 29 :: cs) w) (ht : a.tmps.getD 2 undef = ptr B) (h3 : a.tmps.getD 3 undef = .int .i64 0) (h4 : a.tmps.getD 4 undef = .int .i64 e) (hd : a.defers = []) : bodyPost Tryz.prog fn (RRPost (.bad e) cs) .ret a (((w.setCell ⟨B, 0, none⟩ (.int .i64 0)).setCell ⟨B, 1, none⟩ (.int .i64 0)).setCell ⟨B, 2, none⟩ (.slice none 0 0)) :=
 ret_cell3 hf ht h3 h4 (set3 A).1.2.1 hd ⟨_, rfl, All.addNil (set3 A).tail⟩
theorem rReadResult_any {s : Value} {l : Ws} {cs : List Comp} {w : World} (A : All cs w) (h : Rt w s l) (hl : l.length * 16 ≤ 140737488355328) (hs : ∀ x ∈ l, x.length ≤ 140737488355328) :
   Calls Tryz.prog 135 #[s] w (RRPost (readR l) cs) := by
 obtain ⟨ao, c, rfl⟩ := h.form
 have A0 := hid (A.addBlk [.int .i64 0, .int .i64 0, .slice none 0 0] 29)
 by_cases h0 : l = []
 · subst h0
   rw [readR_nil]
   clear A h hl hs
   go_enter Tryz.func135, Tryz.ntmps135
   go_wp2
   exact ret_cell3 rfl rfl rfl rfl A0.out.1.2.1 rfl ⟨_, rfl, All.addNil A0.out.tail⟩
 have hpos : 0 < l.length := List.length_pos_iff.2 h0
 rw [readR_cons h0]
 have n0 : ((l.length : Int) == 0) = false := by simp; exact h0
 have bw := ba w (.cells #[.int .i64 0, .int .i64 0, .slice none 0 0] 29)
 obtain ⟨g, o, hg, hgl, hcellw⟩ := h.at (j := 0) hpos
 subst hg
 rw [Nat.add_zero] at hcellw
 have hcell0 := cell_under bw hgl hcellw
 have H0 := hid (h.later bw)
 have C16 : Hid (Calls Tryz.prog 101 #[] (w.alloc (.cells #[.int .i64 0, .int .i64 0, .slice none 0 0] 29)).drew fun e w' => ∃ ao1 c1, e = .returned (.slice ao1 5 c1) ∧ w'.cell? ⟨g, o, none⟩ = some (.string ⟨(l.getD 0 []).toArray⟩) ∧ Hid (Calls Tryz.prog 152 #[.slice ao1 5 c1, .int .i64 0, .string ⟨(l.getD 0 []).toArray⟩] w' fun e w2 => e = .returned (.int .i64 (idxI (codeW (l.getD 0 [])))) ∧ w2 = w') ∧ Hid (All (blkC w.heap.size [.int .i64 0, .int .i64 0, .slice none 0 0] 29 :: cs) w') ∧ ((w'.cell? ⟨w.heap.size, 0, none⟩ = some (.int .i64 0) ∧ w'.cell? ⟨w.heap.size, 1, none⟩ = some (.int .i64 0) ∧ w'.cell? ⟨w.heap.size, 2, none⟩ = some (.slice none 0 0)) ∧ w'.frozen? ⟨w.heap.size, 0, none⟩ = false ∧ w'.frozen? ⟨w.heap.size, 1, none⟩ = false ∧ w'.frozen? ⟨w.heap.size, 2, none⟩ = false ∧ w.heap.size < w'.heap.size) ∧ Hid (Below (w.alloc (.cells #[.int .i64 0, .int .i64 0, .slice none 0 0] 29)).heap.size (w.alloc (.cells #[.int .i64 0, .int .i64 0, .slice none 0 0] 29)) w')) := hid (by
   refine Calls.mono codes_any ?_
   rintro e w' ⟨rfl, rfl⟩
   refine ⟨_, _, rfl, cell_under (ba (w.alloc (.cells #[.int .i64 0, .int .i64 0, .slice none 0 0] 29)).drew _) (by have := bw.size; show g < (w.alloc (.cells #[.int .i64 0, .int .i64 0, .slice none 0 0] 29)).heap.size; omega) hcell0, hid ?_, hid (A0.out.drew.alloc _), zero_blk (A0.out.drew.alloc _), hid ((bd _).trans (ba (w.alloc (.cells #[.int .i64 0, .int .i64 0, .slice none 0 0] 29)).drew _))⟩
   have := indexT_any (x := l.getD 0 []) (f := 0) (rt_codes (w.alloc (.cells #[.int .i64 0, .int .i64 0, .slice none 0 0] 29)).drew) (by simp [cdN]) (by omega)
   rw [codeW_idx] at this
   exact this)
 have RN : Hid (∀ p W, p < l.length → Calls Tryz.prog 52 #[.string ⟨(l.getD p []).toArray⟩] W fun e w' => e = .returned (numA (l.getD p [])) ∧ w' = W) := hid (fun p W hp => rNumber21 (hs _ (by
   have : l.getD p [] = l[p] := by simp [List.getD, hp]
   rw [this]; exact List.getElem_mem hp)))
 have HA : Hid (∀ p W, p < l.length → Below (w.alloc (.cells #[.int .i64 0, .int .i64 0, .slice none 0 0] 29)).heap.size (w.alloc (.cells #[.int .i64 0, .int .i64 0, .slice none 0 0] 29)) W → W.cell? ⟨g, o + p, none⟩ = some (.string ⟨(l.getD p []).toArray⟩)) := hid (fun p W hp hb => by
   obtain ⟨g', o', e', _, hc⟩ := (H0.out.later hb).at (j := p) hp
   simp only [Option.some.injEq, Addr.mk.injEq, and_true] at e'
   obtain ⟨rfl, rfl⟩ := e'
   exact hc)
 cases hc : codeW (l.getD 0 []) with
 | none =>
   simp only
   rw [hc] at C16
   have i1 : idxI none = -1 := rfl
   rw [i1] at C16
   clear A h hs hc h0 RN HA i1 hgl hcellw bw H0
   generalize ByteArray.mk (l.getD 0 []).toArray = X at *
   generalize l.length = n at *
   go_enter Tryz.func135, Tryz.ntmps135
   go_wp2
   go_region_law (go_simp; first | (go_at_call 101; refine C16.out.mono ?_; rintro e w1 ⟨ao1, c1, rfl, hc1, I1, A1, ⟨⟨z0, z1, z2⟩, f0, f1, f2, hlt⟩, B1⟩) | (go_at_call 152; refine I1.out.mono ?_; rintro e w2 ⟨rfl, hw2⟩; subst w2))
   all_goals (go_wp2; exact bad3 rfl A1.out rfl rfl rfl rfl)
 | some k =>
   rw [hc] at C16
   have i1 : idxI (some k) = (k : Int) := rfl
   rw [i1] at C16
   cases k with
   | succ k =>
     simp only
     have ek : ((k + 1 : Nat) : Int) = (k : Int) + 1 := by omega
     have nk : ((k : Int) + 1 != 0) = true := by simp; omega
     have nk2 : ¬ (k : Int) + 1 < 0 := by omega
     rw [ek] at C16
     clear A h hs hc h0 RN HA i1 hgl hcellw bw H0 ek
     generalize ByteArray.mk (l.getD 0 []).toArray = X at *
     generalize l.length = n at *
     go_enter Tryz.func135, Tryz.ntmps135
     go_wp2
     go_region_law (go_simp; first | (go_at_call 101; refine C16.out.mono ?_; rintro e w1 ⟨ao1, c1, rfl, hc1, I1, A1, ⟨⟨z0, z1, z2⟩, f0, f1, f2, hlt⟩, B1⟩) | (go_at_call 152; refine I1.out.mono ?_; rintro e w2 ⟨rfl, hw2⟩; subst w2))
     all_goals (go_wp2; exact ret_cell3 rfl rfl rfl rfl (set3 A1.out).1.2.1 rfl ⟨_, rfl, All.addNil (set3 A1.out).tail⟩)
   | zero =>
     simp only
     have e0 : ((0 : Nat) : Int) = 0 := rfl
     rw [e0] at C16
     have HA1 := HA.out 1
     have HA2 := HA.out 2
     have RN1 := RN.out 1
     have RN2 := RN.out 2
     clear i1 e0 hc
     unfold numA at RN1 RN2
     by_cases h2 : l.length < 2
     · have e1 : readD l = .bad 162 := by unfold readD; rw [if_pos h2]
       rw [e1]
       have h2' : (l.length : Int) < 2 := by omega
       clear A h hs h0 RN HA hgl hcellw bw H0 e1 HA1 HA2 RN1 RN2
       generalize ByteArray.mk (l.getD 0 []).toArray = X at *
       generalize l.length = n at *
       go_enter Tryz.func135, Tryz.ntmps135
       go_wp2
       go_region_law (go_simp; first | (go_at_call 101; refine C16.out.mono ?_; rintro e w1 ⟨ao1, c1, rfl, hc1, I1, A1, ⟨⟨z0, z1, z2⟩, f0, f1, f2, hlt⟩, B1⟩) | (go_at_call 152; refine I1.out.mono ?_; rintro e w2 ⟨rfl, hw2⟩; subst w2))
       all_goals (go_wp2; exact bad3 rfl A1.out rfl rfl rfl rfl)
     have h2' : ¬ (l.length : Int) < 2 := by omega
     have HB1 : Hid (∀ W, Below (w.alloc (.cells #[.int .i64 0, .int .i64 0, .slice none 0 0] 29)).heap.size (w.alloc (.cells #[.int .i64 0, .int .i64 0, .slice none 0 0] 29)) W → W.cell? ⟨g, o + 1, none⟩ = some (.string ⟨(l.getD 1 []).toArray⟩)) := hid (fun W hb => HA1 W (by omega) hb)
     have RB1 := hid (fun W => RN1 W (by omega))
     clear HA1 RN1
     cases hn1 : numW (l.getD 1 []) with
     | none =>
       have e1 : readD l = .bad 163 := by unfold readD; rw [if_neg h2, hn1]
       rw [e1]
       rw [hn1] at RB1
       simp only [Option.getD_none, Option.isSome_none] at RB1
       clear A h hs h0 RN HA hgl hcellw bw H0 e1 HA2 RN2 hn1
       generalize ByteArray.mk (l.getD 0 []).toArray = X at *
       generalize ByteArray.mk (l.getD 1 []).toArray = X1 at *
       generalize l.length = n at *
       go_enter Tryz.func135, Tryz.ntmps135
       go_wp2
       go_region_law (go_simp; first | (go_at_call 101; refine C16.out.mono ?_; rintro e w1 ⟨ao1, c1, rfl, hc1, I1, A1, ⟨⟨z0, z1, z2⟩, f0, f1, f2, hlt⟩, B1⟩) | (go_at_call 152; refine I1.out.mono ?_; rintro e w2 ⟨rfl, hw2⟩; subst w2))
       all_goals (have d1 := HB1.out _ B1.out; go_wp2_with (go_at_call 52; refine (RB1.out _).mono ?_; rintro e w3 ⟨rfl, hw3⟩; subst w3); exact bad3 rfl A1.out rfl rfl rfl rfl)
     | some z =>
       rw [hn1] at RB1
       simp only [Option.getD_some, Option.isSome_some] at RB1
       have hz63 := numW_le hn1
       by_cases h3 : l.length < 3
       · have e1 : readD l = .bad 162 := by unfold readD; rw [if_neg h2, hn1]; simp only; rw [if_pos h3]
         rw [e1]
         have h3' : (l.length : Int) < 3 := by omega
         clear A h hs h0 RN HA hgl hcellw bw H0 e1 HA2 RN2 hn1
         generalize ByteArray.mk (l.getD 0 []).toArray = X at *
         generalize ByteArray.mk (l.getD 1 []).toArray = X1 at *
         generalize l.length = n at *
         go_enter Tryz.func135, Tryz.ntmps135
         go_wp2
         go_region_law (go_simp; first | (go_at_call 101; refine C16.out.mono ?_; rintro e w1 ⟨ao1, c1, rfl, hc1, I1, A1, ⟨⟨z0, z1, z2⟩, f0, f1, f2, hlt⟩, B1⟩) | (go_at_call 152; refine I1.out.mono ?_; rintro e w2 ⟨rfl, hw2⟩; subst w2))
         all_goals (have d1 := HB1.out _ B1.out; go_wp2_with (go_at_call 52; refine (RB1.out _).mono ?_; rintro e w3 ⟨rfl, hw3⟩; subst w3); exact bad3 rfl A1.out rfl rfl rfl rfl)
       have h3' : ¬ (l.length : Int) < 3 := by omega
       have HB2 : Hid (∀ W, Below (w.alloc (.cells #[.int .i64 0, .int .i64 0, .slice none 0 0] 29)).heap.size (w.alloc (.cells #[.int .i64 0, .int .i64 0, .slice none 0 0] 29)) W → W.cell? ⟨g, o + 2, none⟩ = some (.string ⟨(l.getD 2 []).toArray⟩)) := hid (fun W hb => HA2 W (by omega) hb)
       have RB2 := hid (fun W => RN2 W (by omega))
       clear HA2 RN2
       cases hn2 : numW (l.getD 2 []) with
       | none =>
         have e1 : readD l = .bad 163 := by unfold readD; rw [if_neg h2, hn1]; simp only; rw [if_neg h3, hn2]
         rw [e1]
         rw [hn2] at RB2
         simp only [Option.getD_none, Option.isSome_none] at RB2
         clear A h hs h0 RN HA hgl hcellw bw H0 e1 hn1 hn2
         generalize ByteArray.mk (l.getD 0 []).toArray = X at *
         generalize ByteArray.mk (l.getD 1 []).toArray = X1 at *
         generalize ByteArray.mk (l.getD 2 []).toArray = X2 at *
         generalize l.length = n at *
         go_enter Tryz.func135, Tryz.ntmps135
         go_wp2
         go_region_law (go_simp; first | (go_at_call 101; refine C16.out.mono ?_; rintro e w1 ⟨ao1, c1, rfl, hc1, I1, A1, ⟨⟨z0, z1, z2⟩, f0, f1, f2, hlt⟩, B1⟩) | (go_at_call 152; refine I1.out.mono ?_; rintro e w2 ⟨rfl, hw2⟩; subst w2))
         all_goals (have d1 := HB1.out _ B1.out; have d2 := HB2.out _ B1.out; go_wp2_with (go_at_call 52; refine (RB1.out _).mono ?_; rintro e w3 ⟨rfl, hw3⟩; subst w3; refine Hid.out ?_); refine hid ?_; go_wp2_with (go_at_call 52; refine (RB2.out _).mono ?_; rintro e w3 ⟨rfl, hw3⟩; subst w3); exact bad3 rfl A1.out rfl rfl rfl rfl)
       | some m =>
         rw [hn2] at RB2
         simp only [Option.getD_some, Option.isSome_some] at RB2
         have hm63 := numW_le hn2
         have e4 : readD l = if l.length < m + 3 then .bad 162 else if chkW 0 z ((l.drop 3).take m) ≠ 0 then .bad (chkW 0 z ((l.drop 3).take m)) else ⟨0, z, (l.drop 3).take m, 3 + m, 0⟩ := by
           unfold readD; rw [if_neg h2, hn1]; simp only; rw [if_neg h3, hn2]
         rw [e4]
         by_cases hm : l.length < m + 3
         · rw [if_pos hm]
           have hm' : (l.length : Int) - 3 < (m : Int) := by omega
           clear A h hs h0 RN HA hgl hcellw bw H0 e4 hn1 hn2
           generalize ByteArray.mk (l.getD 0 []).toArray = X at *
           generalize ByteArray.mk (l.getD 1 []).toArray = X1 at *
           generalize ByteArray.mk (l.getD 2 []).toArray = X2 at *
           generalize l.length = n at *
           go_enter Tryz.func135, Tryz.ntmps135
           go_wp2
           go_region_law (go_simp; first | (go_at_call 101; refine C16.out.mono ?_; rintro e w1 ⟨ao1, c1, rfl, hc1, I1, A1, ⟨⟨z0, z1, z2⟩, f0, f1, f2, hlt⟩, B1⟩) | (go_at_call 152; refine I1.out.mono ?_; rintro e w2 ⟨rfl, hw2⟩; subst w2))
           all_goals (have d1 := HB1.out _ B1.out; have d2 := HB2.out _ B1.out; go_wp2_with (go_at_call 52; refine (RB1.out _).mono ?_; rintro e w3 ⟨rfl, hw3⟩; subst w3; refine Hid.out ?_); refine hid ?_; go_wp2_with (go_at_call 52; refine (RB2.out _).mono ?_; rintro e w3 ⟨rfl, hw3⟩; subst w3); exact bad3 rfl A1.out rfl rfl rfl rfl)
         · rw [if_neg hm]
           have hm' : ¬ (l.length : Int) - 3 < (m : Int) := by omega
           have htl : ((l.drop 3).take m).length = m := by rw [List.length_take, List.length_drop]; omega
           obtain ⟨ao5, c5, hcut, HC⟩ := cut_lh (a := 3) (b := m) (x := 3) (y := 3 + (m : Int)) H0.out (by omega) rfl (by omega)
           have AP : Hid (∀ W, Below (w.alloc (.cells #[.int .i64 0, .int .i64 0, .slice none 0 0] 29)).heap.size (w.alloc (.cells #[.int .i64 0, .int .i64 0, .slice none 0 0] 29)) W → All (blkC w.heap.size [.int .i64 0, .int .i64 0, .slice none 0 0] 29 :: cs) W → ∃ ao6 c6 w6, (Builtin.append_ #[27, 27] 27 #[.slice none 0 0, .slice ao5 m c5]).run Tryz.prog W = .ok (.slice ao6 m c6) w6 ∧ Hid (All (ownC 9 (.slice ao6 m c6) (txW ((l.drop 3).take m)) :: blkC w.heap.size [.int .i64 0, .int .i64 0, .slice none 0 0] 29 :: cs) w6)) := hid (fun W hb hA => by
             obtain ⟨ao6, c6, w6, hr, A6⟩ := appR (l := []) (All.addNil (e := 9) hA) (HC.later hb) (by rw [htl]; simp; omega)
             rw [List.length_nil, Nat.zero_add, htl] at hr A6
             rw [List.nil_append] at A6
             exact ⟨ao6, c6, w6, hr, hid A6⟩)
           have CK : Hid (∀ W ao6 c6 ds, All (ownC 9 (.slice ao6 m c6) (txW ((l.drop 3).take m)) :: ds) W → Calls Tryz.prog 100 #[resV 0 (z : Int) (.slice ao6 m c6)] (W.alloc (.cells #[.int .i64 0, .int .i64 (z : Int), .slice ao6 m c6] 29)) fun e w' => e = .returned (.int .i64 (chkW 0 z ((l.drop 3).take m))) ∧ Below (W.alloc (.cells #[.int .i64 0, .int .i64 (z : Int), .slice ao6 m c6] 29)).heap.size (W.alloc (.cells #[.int .i64 0, .int .i64 (z : Int), .slice ao6 m c6] 29)) w') := hid (fun W ao6 c6 ds hA => check15 0 z ((rt_own hA).later (ba W _)) (by rw [htl]; omega))
           generalize chkW 0 z ((l.drop 3).take m) = XX at *
           have wa : IntKind.i64.wrap (3 + (m : Int)) = 3 + m := by rw [IntKind.wrap_i64]; omega
           have ek : Hid (((3 + m : Nat) : Int) = 3 + (m : Int)) := hid (by omega)
           clear A h hs h0 RN HA hgl hcellw bw H0 e4 hn1 hn2 HC htl
           generalize (l.drop 3).take m = IT at *
           generalize ByteArray.mk (l.getD 0 []).toArray = X at *
           generalize ByteArray.mk (l.getD 1 []).toArray = X1 at *
           generalize ByteArray.mk (l.getD 2 []).toArray = X2 at *
           generalize l.length = n at *
           by_cases hX0 : XX ≠ 0
           · rw [if_pos hX0]
             have hX' : (XX != 0) = true := by simpa using hX0
             clear hX0
             go_enter Tryz.func135, Tryz.ntmps135
             go_wp2
             go_region_law (go_simp; first | (go_at_call 101; refine C16.out.mono ?_; rintro e w1 ⟨ao1, c1, rfl, hc1, I1, A1, ⟨⟨z0, z1, z2⟩, f0, f1, f2, hlt⟩, B1⟩) | (go_at_call 152; refine I1.out.mono ?_; rintro e w2 ⟨rfl, hw2⟩; subst w2))
             all_goals (have d1 := HB1.out _ B1.out; have d2 := HB2.out _ B1.out; go_wp2_with (go_at_call 52; refine (RB1.out _).mono ?_; rintro e w3 ⟨rfl, hw3⟩; subst w3; refine Hid.out ?_); refine hid ?_; go_wp2_with (go_at_call 52; refine (RB2.out _).mono ?_; rintro e w3 ⟨rfl, hw3⟩; subst w3; refine Hid.out ?_); refine hid ?_; obtain ⟨ao6, c6, w6, hr6, A6⟩ := AP.out _ B1.out A1.out; have R6 := hid hr6; clear hr6; have Q7 := hid (CK.out w6 ao6 c6 _ A6.out); have A7 := hid (A6.out.addBlk [.int .i64 0, .int .i64 (z : Int), .slice ao6 m c6] 29); go_wp2_with (first | (at_builtin; refine wpList_append_run rfl _ _ 27 rfl _ _ _ _ rfl rfl R6.out ?_) | (go_at_call 100; refine Q7.out.mono ?_; rintro e w8 ⟨rfl, B8⟩; have A8 := hid ((A7.out.later B8).perm (perm3a _ _ _ _)); clear B8; refine Hid.out ?_)); refine hid ?_; obtain ⟨⟨z0, z1, z2⟩, f0, f1, f2, hlt⟩ := zero_blk A8.out; go_wp2; exact ret_cell3 rfl rfl rfl rfl (set3 A8.out).1.2.1 rfl ⟨_, rfl, All.addNil (set3 A8.out).tail.tail.tail⟩)
           · rw [if_neg hX0]
             have hX' : XX = 0 := Classical.byContradiction hX0
             subst hX'
             clear hX0
             go_enter Tryz.func135, Tryz.ntmps135
             go_wp2
             go_region_law (go_simp; first | (go_at_call 101; refine C16.out.mono ?_; rintro e w1 ⟨ao1, c1, rfl, hc1, I1, A1, ⟨⟨z0, z1, z2⟩, f0, f1, f2, hlt⟩, B1⟩) | (go_at_call 152; refine I1.out.mono ?_; rintro e w2 ⟨rfl, hw2⟩; subst w2))
             all_goals (have d1 := HB1.out _ B1.out; have d2 := HB2.out _ B1.out; go_wp2_with (go_at_call 52; refine (RB1.out _).mono ?_; rintro e w3 ⟨rfl, hw3⟩; subst w3; refine Hid.out ?_); refine hid ?_; go_wp2_with (go_at_call 52; refine (RB2.out _).mono ?_; rintro e w3 ⟨rfl, hw3⟩; subst w3; refine Hid.out ?_); refine hid ?_; obtain ⟨ao6, c6, w6, hr6, A6⟩ := AP.out _ B1.out A1.out; have R6 := hid hr6; clear hr6; have Q7 := hid (CK.out w6 ao6 c6 _ A6.out); have A7 := hid (A6.out.addBlk [.int .i64 0, .int .i64 (z : Int), .slice ao6 m c6] 29); go_wp2_with (first | (at_builtin; refine wpList_append_run rfl _ _ 27 rfl _ _ _ _ rfl rfl R6.out ?_) | (go_at_call 100; refine Q7.out.mono ?_; rintro e w8 ⟨rfl, B8⟩; have A8 := hid ((A7.out.later B8).perm (perm3a _ _ _ _)); clear B8; refine Hid.out ?_)); refine hid ?_; obtain ⟨⟨z0, z1, z2⟩, f0, f1, f2, hlt⟩ := zero_blk A8.out; have A9 := hid (set3 (x := .int .i64 0) (y := .int .i64 (z : Int)) (z := .slice ao6 m c6) A8.out); have hbh := A8.out.tail.1.2.1; have y0 : w8.cell? ⟨w6.heap.size, 0, none⟩ = some (.int .i64 0) := (by rw [cell_at hbh]; rfl); have y1 : w8.cell? ⟨w6.heap.size, 1, none⟩ = some (.int .i64 (z : Int)) := (by rw [cell_at hbh]; rfl); have y2 : w8.cell? ⟨w6.heap.size, 2, none⟩ = some (.slice ao6 m c6) := (by rw [cell_at hbh]; rfl); clear hbh; go_wp2; exact ret_cell3 rfl rfl rfl rfl A9.out.1.2.1 rfl ⟨_, by show _ = Ending.returned (.tuple #[resV 0 (z : Int) _, .int .i64 ((3 + m : Nat) : Int), .int .i64 0]); rw [ek.out]; rfl, A9.out.tail.tail⟩)
set_option linter.unusedVariables false
set_option maxRecDepth 1000000
set_option maxHeartbeats 3200000
theorem ret_op1 {fn : Func} (hf : fn.results = #[.cell 2 24]) {R : Ending → World → Prop} {a : Act} {w : World} {b : Nat} {EC : List Value} (ht : a.tmps.getD 2 undef = ptr b) (hg : w.heap[b]? = some (.cells EC.toArray 24 (0, 0))) (hs : EC.length = 5) (hd : a.defers = []) (hR : R (.returned (.agg EC.toArray)) w) : bodyPost Tryz.prog fn R .ret a w := by
 refine bodyPost_ret (v := .agg EC.toArray) ?_ hd hR
 have hp : a.tmps[2]?.getD undef = ptr b := by rw [← ht]; simp
 simp [results, hf, hp, asAddr, run_loadVar_row w b 24 24 EC.toArray (0, 0) _ hg Tryz.underlying24 rfl (by rw [List.size_toArray, hs]; kernel_rfl)]
theorem rop0 {R g c : Nat} {l : Ws} {k : Nat} {cs : List Comp} {w : World} (hk : k ≤ l.length) (hl : l.length ≤ 140737488355328) (hs : ∀ y ∈ l, y.length ≤ 140737488355328) (hS : ∀ W, All cs W → Rt W (.slice (some ⟨g, 0, none⟩) l.length c) l) (A : All (rdB R (.slice (some ⟨g, 0, none⟩) l.length c) k 0 :: cs) w) :
   Calls Tryz.prog 109 #[.pointer (some ⟨R, 0, none⟩)] w fun e w' => e = .returned (opV (readO (l.drop k)).o.k ⟨(readO (l.drop k)).o.nm.toArray⟩ ⟨(readO (l.drop k)).o.tx.toArray⟩ ((readO (l.drop k)).o.n : Int) ((readO (l.drop k)).o.m : Int)) ∧ All (rdB R (.slice (some ⟨g, 0, none⟩) l.length c) (k + (readO (l.drop k)).k) (flE 0 (readO (l.drop k)).e) :: cs) w' := by
 have c2 : (w.alloc (.cells #[.int .i64 0, .string ⟨#[]⟩, .string ⟨#[]⟩, .int .i64 0, .int .i64 0] 24)).cell? ⟨R, 2, none⟩ = some (.int .i64 0) := cell_in (A.addBlk [.int .i64 0, .string ⟨#[]⟩, .string ⟨#[]⟩, .int .i64 0, .int .i64 0] 24) (List.mem_cons_of_mem _ List.mem_cons_self) rfl
 obtain ⟨aq, cq, cu, _⟩ := cut_l (hS w A.tail) hk rfl
 have CO : Hid (∀ ds W, All (ds ++ blkC w.heap.size [.int .i64 0, .string ⟨#[]⟩, .string ⟨#[]⟩, .int .i64 0, .int .i64 0] 24 :: rdB R (.slice (some ⟨g, 0, none⟩) l.length c) k 0 :: cs) W → Calls Tryz.prog 134 #[.slice aq (l.length - k) cq] W (ROPost (readO (l.drop k)) (ds ++ blkC w.heap.size [.int .i64 0, .string ⟨#[]⟩, .string ⟨#[]⟩, .int .i64 0, .int .i64 0] 24 :: rdB R (.slice (some ⟨g, 0, none⟩) l.length c) k 0 :: cs))) := hid (fun ds W h => by
   refine rReadOp_any h (fun V hV => ?_) (by simp; omega) (fun y hy => hs y (List.mem_of_mem_drop hy))
   obtain ⟨a2, c3, cu2, h2⟩ := cut_l (hS V (dropA hV).tail.tail) hk rfl
   have := (cu V).symm.trans (cu2 V)
   simp only [Result.ok.injEq, Value.slice.injEq] at this
   obtain ⟨⟨rfl, _, rfl⟩, _⟩ := this
   exact h2)
 have PR : Hid (∀ W ds, All (ds ++ blkC w.heap.size [.int .i64 0, .string ⟨#[]⟩, .string ⟨#[]⟩, .int .i64 0, .int .i64 0] 24 :: rdB R (.slice (some ⟨g, 0, none⟩) l.length c) k 0 :: cs) W → W.cell? ⟨R, 0, none⟩ = some (.slice (some ⟨g, 0, none⟩) l.length c) ∧ W.cell? ⟨R, 1, none⟩ = some (.int .i64 (k : Int))) := hid (fun W ds h => ⟨cell_in h (List.mem_append_right _ (List.mem_cons_of_mem _ List.mem_cons_self)) rfl, cell_in h (List.mem_append_right _ (List.mem_cons_of_mem _ List.mem_cons_self)) rfl⟩)
 have A1 := hid (A.addBlk [.int .i64 0, .string ⟨#[]⟩, .string ⟨#[]⟩, .int .i64 0, .int .i64 0] 24).drew
 have RK : (readO (l.drop k)).k ≤ l.length - k := by have := readO_le (l.drop k); simpa using this
 unfold ROPost at CO
 generalize readO (l.drop k) = r at *
 have IO : Hid ((Tryz.prog.info? 24).map (·.size) = some (#[.int .i64 r.o.k, .string ⟨r.o.nm.toArray⟩, .string ⟨r.o.tx.toArray⟩, .int .i64 (r.o.n : Int), .int .i64 (r.o.m : Int)] : Array Value).size) := hid (by kernel_rfl)
 have OO : Hid ((#[.int .i64 r.o.k, .string ⟨r.o.nm.toArray⟩, .string ⟨r.o.tx.toArray⟩, .int .i64 (r.o.n : Int), .int .i64 (r.o.m : Int)] : Array Value).all (·.oneCell') = true) := hid (by kernel_rfl)
 clear A hS hs
 generalize l.length = n at *
 go_enter Tryz.func109, Tryz.ntmps109
 go_upto_region 3 with fail
 go_cut [3, 4, 5] (fun v3 v4 v5 wx => ∃ Gx, v3 = ptr Gx ∧ v4 = .int .i64 (r.k : Int) ∧ v5 = .int .i64 r.e ∧ Hid (All (blkC Gx [.int .i64 r.o.k, .string ⟨r.o.nm.toArray⟩, .string ⟨r.o.tx.toArray⟩, .int .i64 (r.o.n : Int), .int .i64 (r.o.m : Int)] 24 :: blkC w.heap.size [.int .i64 0, .string ⟨#[]⟩, .string ⟨#[]⟩, .int .i64 0, .int .i64 0] 24 :: rdB R (.slice (some ⟨g, 0, none⟩) n c) k 0 :: cs) wx))
 case first =>
   have hHeld0 := PR.out _ [] A1.out
   refine wp_region_held_drew (S := (fun W => W.cell? ⟨R, 0, none⟩ = some (.slice (some ⟨g, 0, none⟩) n c) ∧ W.cell? ⟨R, 1, none⟩ = some (.int .i64 (k : Int)))) (by kernel_rfl) hHeld0 (fun hHeld => ?_)
   generalize World.drew _ = wd at *
   refine wpAnyH_take (i := 0) (oi := { dst := some 13, op := Go.Op.move (.tmp 0), type := 128, pos := "ref.go:224", after := #[], guard := Option.none }) (v := ?_) rfl (by kernel_rfl) (by kernel_rfl) (by kernel_rfl) (fun _ _ _ h => h) (Or.inl ⟨by rfl, ?_⟩) hHeld ?_
   rotate_left
   · intro W hSw
     obtain ⟨s1, s2⟩ := hSw
     go_simp
     (try with_reducible rfl)
   (try simp only [puS])
   refine wpAnyH_take (i := 1) (oi := { dst := some 14, op := Go.Op.nilCheck (.tmp 13), type := 0, pos := "ref.go:224", after := #[{ on := 0, ground := Go.Ground.data }], guard := Option.none }) (v := ?_) rfl (by kernel_rfl) (by kernel_rfl) (by kernel_rfl) (fun _ _ _ h => h) (Or.inl ⟨by rfl, ?_⟩) hHeld ?_
   rotate_left
   · intro W hSw
     obtain ⟨s1, s2⟩ := hSw
     go_simp
     (try with_reducible rfl)
   (try simp only [puS])
   refine wpAnyH_take (i := 2) (oi := { dst := some 15, op := Go.Op.fieldAddr 130 (.tmp 14) 0, type := 0, pos := "ref.go:224", after := #[{ on := 1, ground := Go.Ground.data }], guard := Option.none }) (v := ?_) rfl (by kernel_rfl) (by kernel_rfl) (by kernel_rfl) (fun _ _ _ h => h) (Or.inl ⟨by rfl, ?_⟩) hHeld ?_
   rotate_left
   · intro W hSw
     obtain ⟨s1, s2⟩ := hSw
     go_simp
     (try with_reducible rfl)
   (try simp only [puS])
   refine wpAnyH_take (i := 3) (oi := { dst := some 16, op := Go.Op.load 27 (.tmp 15), type := 27, pos := "ref.go:224", after := #[{ on := 2, ground := Go.Ground.data }], guard := Option.none }) (v := ?_) rfl (by kernel_rfl) (by kernel_rfl) (by kernel_rfl) (fun _ _ _ h => h) (Or.inl ⟨by rfl, ?_⟩) hHeld ?_
   rotate_left
   · intro W hSw
     obtain ⟨s1, s2⟩ := hSw
     go_simp
     (try with_reducible rfl)
   (try simp only [puS])
   refine wpAnyH_take (i := 4) (oi := { dst := some 17, op := Go.Op.move (.tmp 0), type := 128, pos := "ref.go:224", after := #[], guard := Option.none }) (v := ?_) rfl (by kernel_rfl) (by kernel_rfl) (by kernel_rfl) (fun _ _ _ h => h) (Or.inl ⟨by rfl, ?_⟩) hHeld ?_
   rotate_left
   · intro W hSw
     obtain ⟨s1, s2⟩ := hSw
     go_simp
     (try with_reducible rfl)
   (try simp only [puS])
   refine wpAnyH_take (i := 5) (oi := { dst := some 18, op := Go.Op.nilCheck (.tmp 17), type := 0, pos := "ref.go:224", after := #[{ on := 4, ground := Go.Ground.data }], guard := Option.none }) (v := ?_) rfl (by kernel_rfl) (by kernel_rfl) (by kernel_rfl) (fun _ _ _ h => h) (Or.inl ⟨by rfl, ?_⟩) hHeld ?_
   rotate_left
   · intro W hSw
     obtain ⟨s1, s2⟩ := hSw
     go_simp
     (try with_reducible rfl)
   (try simp only [puS])
   refine wpAnyH_take (i := 6) (oi := { dst := some 19, op := Go.Op.fieldAddr 130 (.tmp 18) 1, type := 0, pos := "ref.go:224", after := #[{ on := 5, ground := Go.Ground.data }], guard := Option.none }) (v := ?_) rfl (by kernel_rfl) (by kernel_rfl) (by kernel_rfl) (fun _ _ _ h => h) (Or.inl ⟨by rfl, ?_⟩) hHeld ?_
   rotate_left
   · intro W hSw
     obtain ⟨s1, s2⟩ := hSw
     go_simp
     (try with_reducible rfl)
   (try simp only [puS])
   refine wpAnyH_take (i := 7) (oi := { dst := some 20, op := Go.Op.load 3 (.tmp 19), type := 3, pos := "ref.go:224", after := #[{ on := 6, ground := Go.Ground.data }], guard := Option.none }) (v := ?_) rfl (by kernel_rfl) (by kernel_rfl) (by kernel_rfl) (fun _ _ _ h => h) (Or.inl ⟨by rfl, ?_⟩) hHeld ?_
   rotate_left
   · intro W hSw
     obtain ⟨s1, s2⟩ := hSw
     go_simp
     (try with_reducible rfl)
   (try simp only [puS])
   refine wpAnyH_take (i := 8) (oi := { dst := some 21, op := Go.Op.slice 27 (.tmp 16) (some (.tmp 20)) Option.none Option.none, type := 27, pos := "ref.go:224", after := #[{ on := 3, ground := Go.Ground.data }, { on := 7, ground := Go.Ground.data }], guard := Option.none }) (v := ?_) rfl (by kernel_rfl) (by kernel_rfl) (by kernel_rfl) (fun _ _ _ h => h) (Or.inl ⟨by rfl, ?_⟩) hHeld ?_
   rotate_left
   · intro W hSw
     obtain ⟨s1, s2⟩ := hSw
     go_simp
     (try with_reducible rfl)
   (try simp only [puS])
   refine wpAnyH_ready (rs := [9, 14]) (by kernel_rfl) (by simp) ?_
   refine AllReadyH.cons (o := { dst := some 22, op := Go.Op.call { callee := Go.Callee.value (.func 134), args := #[.tmp 21], argTypes := #[27] }, type := 184, pos := "ref.go:224", after := #[{ on := 8, ground := Go.Ground.data }], guard := Option.none }) rfl (fun K hK => ?_) (AllReadyH.cons (o := { dst := some 3, op := Go.Op.alloc 24, type := 0, pos := "ref.go:224", after := #[], guard := Option.none }) rfl (fun K hK => ?_) AllReadyH.nil)
   · skip
     go_simp
     go_at_call 134; refine (CO.out [] _ A1.out).mono ?_; rintro r0 w2 ⟨rfl, B2⟩; have K2 := hid B2; clear B2
     refine hK.out _ _ (PR.out _ [] K2.out) (fun hHeld => ?_)
     clear hK K
     (try simp only [puS])
     refine wpAnyH_take (i := 10) (oi := { dst := some 12, op := Go.Op.move (.tmp 22), type := 184, pos := "ref.go:224", after := #[{ on := 9, ground := Go.Ground.data }], guard := Option.none }) (v := ?_) rfl (by kernel_rfl) (by kernel_rfl) (by kernel_rfl) (fun _ _ _ h => h) (Or.inl ⟨by rfl, ?_⟩) hHeld ?_
     rotate_left
     · intro W hSw
       obtain ⟨s1, s2⟩ := hSw
       go_simp
       (try with_reducible rfl)
     (try simp only [puS])
     refine wpAnyH_take (i := 11) (oi := { dst := some 23, op := Go.Op.extract (.tmp 12) 0, type := 24, pos := "ref.go:224", after := #[{ on := 10, ground := Go.Ground.data }], guard := Option.none }) (v := ?_) rfl (by kernel_rfl) (by kernel_rfl) (by kernel_rfl) (fun _ _ _ h => h) (Or.inl ⟨by rfl, ?_⟩) hHeld ?_
     rotate_left
     · intro W hSw
       obtain ⟨s1, s2⟩ := hSw
       go_simp
       (try with_reducible rfl)
     (try simp only [puS])
     refine wpAnyH_take (i := 12) (oi := { dst := some 24, op := Go.Op.extract (.tmp 12) 1, type := 3, pos := "ref.go:224", after := #[{ on := 10, ground := Go.Ground.data }, { on := 15, ground := Go.Ground.gcOnly Go.Departure.lateStores }], guard := Option.none }) (v := ?_) rfl (by kernel_rfl) (by kernel_rfl) (by kernel_rfl) (fun _ _ _ h => h) (Or.inl ⟨by rfl, ?_⟩) hHeld ?_
     rotate_left
     · intro W hSw
       obtain ⟨s1, s2⟩ := hSw
       go_simp
       (try with_reducible rfl)
     (try simp only [puS])
     refine wpAnyH_take (i := 13) (oi := { dst := some 25, op := Go.Op.extract (.tmp 12) 2, type := 22, pos := "ref.go:224", after := #[{ on := 10, ground := Go.Ground.data }, { on := 16, ground := Go.Ground.gcOnly Go.Departure.lateStores }], guard := Option.none }) (v := ?_) rfl (by kernel_rfl) (by kernel_rfl) (by kernel_rfl) (fun _ _ _ h => h) (Or.inl ⟨by rfl, ?_⟩) hHeld ?_
     rotate_left
     · intro W hSw
       obtain ⟨s1, s2⟩ := hSw
       go_simp
       (try with_reducible rfl)
     (try simp only [puS])
     refine wpAnyH_ready (rs := [14]) (by kernel_rfl) (by simp) ?_
     refine AllReadyH.cons (o := { dst := some 3, op := Go.Op.alloc 24, type := 0, pos := "ref.go:224", after := #[], guard := Option.none }) rfl (fun K hK => ?_) AllReadyH.nil
     go_simp
     have K3 := hid (K2.out.addBlk [.int .i64 r.o.k, .string ⟨r.o.nm.toArray⟩, .string ⟨r.o.tx.toArray⟩, .int .i64 (r.o.n : Int), .int .i64 (r.o.m : Int)] 24)
     refine hK.out _ _ (PR.out _ [_] (K2.out.addBlk [.int .i64 0, .string ⟨#[]⟩, .string ⟨#[]⟩, .int .i64 0, .int .i64 0] 24)) (fun hHeld => ?_)
     clear hK K
     (try simp only [puS])
     have KB := hid (K2.out.addBlk [.int .i64 0, .string ⟨#[]⟩, .string ⟨#[]⟩, .int .i64 0, .int .i64 0] 24)
     have KC := hid (KB.out.setRow (vs' := [.int .i64 r.o.k, .string ⟨r.o.nm.toArray⟩, .string ⟨r.o.tx.toArray⟩, .int .i64 (r.o.n : Int), .int .i64 (r.o.m : Int)]))
     refine wpAnyH_ready (rs := [15]) (by kernel_rfl) (by simp) ?_
     refine AllReadyH.cons (o := { dst := Option.none, op := Go.Op.store 24 (.tmp 3) (.tmp 23), type := 0, pos := "ref.go:224", after := #[{ on := 14, ground := Go.Ground.data }, { on := 11, ground := Go.Ground.data }, { on := 9, ground := Go.Ground.chain }, { on := 0, ground := Go.Ground.phase }, { on := 1, ground := Go.Ground.phase }, { on := 2, ground := Go.Ground.phase }, { on := 3, ground := Go.Ground.phase }, { on := 4, ground := Go.Ground.phase }, { on := 5, ground := Go.Ground.phase }, { on := 6, ground := Go.Ground.phase }, { on := 7, ground := Go.Ground.phase }, { on := 8, ground := Go.Ground.phase }, { on := 9, ground := Go.Ground.phase }, { on := 10, ground := Go.Ground.phase }, { on := 11, ground := Go.Ground.phase }, { on := 12, ground := Go.Ground.textOnly Go.Departure.lateStores }, { on := 13, ground := Go.Ground.textOnly Go.Departure.lateStores }, { on := 14, ground := Go.Ground.phase }], guard := Option.none }) rfl (fun K hK => ?_) AllReadyH.nil
     rw [if_pos (by rfl)]
     refine wp_store_row 24 _ _ rfl _ #[.int .i64 r.o.k, .string ⟨r.o.nm.toArray⟩, .string ⟨r.o.tx.toArray⟩, .int .i64 (r.o.n : Int), .int .i64 (r.o.m : Int)] rfl rfl 24 _ (KB.out.blk List.mem_cons_self) IO.out rfl OO.out ?_
     refine hK.out _ _ (PR.out _ [_] KC.out) (fun hHeld => ?_)
     clear hK K
     (try simp only [Act.put])
     refine wpAnyH_take (i := 16) (oi := { dst := some 4, op := Go.Op.assign (.tmp 24), type := 3, pos := "ref.go:224", after := #[{ on := 12, ground := Go.Ground.data }, { on := 15, ground := Go.Ground.chain }, { on := 0, ground := Go.Ground.phase }, { on := 1, ground := Go.Ground.phase }, { on := 2, ground := Go.Ground.phase }, { on := 3, ground := Go.Ground.phase }, { on := 4, ground := Go.Ground.phase }, { on := 5, ground := Go.Ground.phase }, { on := 6, ground := Go.Ground.phase }, { on := 7, ground := Go.Ground.phase }, { on := 8, ground := Go.Ground.phase }, { on := 9, ground := Go.Ground.phase }, { on := 10, ground := Go.Ground.phase }, { on := 11, ground := Go.Ground.phase }, { on := 12, ground := Go.Ground.phase }, { on := 13, ground := Go.Ground.textOnly Go.Departure.lateStores }, { on := 14, ground := Go.Ground.phase }, { on := 15, ground := Go.Ground.phase }], guard := Option.none }) (v := ?_) rfl (by kernel_rfl) (by kernel_rfl) (by kernel_rfl) (fun _ _ _ h => h) (Or.inl ⟨by rfl, ?_⟩) hHeld ?_
     rotate_left
     · intro W hSw
       obtain ⟨s1, s2⟩ := hSw
       go_simp
       (try with_reducible rfl)
     (try simp only [puS])
     refine wpAnyH_take (i := 17) (oi := { dst := some 5, op := Go.Op.assign (.tmp 25), type := 22, pos := "ref.go:224", after := #[{ on := 13, ground := Go.Ground.data }, { on := 16, ground := Go.Ground.chain }, { on := 0, ground := Go.Ground.phase }, { on := 1, ground := Go.Ground.phase }, { on := 2, ground := Go.Ground.phase }, { on := 3, ground := Go.Ground.phase }, { on := 4, ground := Go.Ground.phase }, { on := 5, ground := Go.Ground.phase }, { on := 6, ground := Go.Ground.phase }, { on := 7, ground := Go.Ground.phase }, { on := 8, ground := Go.Ground.phase }, { on := 9, ground := Go.Ground.phase }, { on := 10, ground := Go.Ground.phase }, { on := 11, ground := Go.Ground.phase }, { on := 12, ground := Go.Ground.phase }, { on := 13, ground := Go.Ground.phase }, { on := 14, ground := Go.Ground.phase }, { on := 15, ground := Go.Ground.phase }, { on := 16, ground := Go.Ground.phase }], guard := Option.none }) (v := ?_) rfl (by kernel_rfl) (by kernel_rfl) (by kernel_rfl) (fun _ _ _ h => h) (Or.inl ⟨by rfl, ?_⟩) hHeld ?_
     rotate_left
     · intro W hSw
       obtain ⟨s1, s2⟩ := hSw
       go_simp
       (try with_reducible rfl)
     (try simp only [puS])
     refine wpAnyH_done (by kernel_rfl) ?_ _
     clear hHeld
     go_wp2_with fail
     go_meet
     exact ⟨_, rfl, rfl, rfl, KC⟩
   · skip
     go_simp
     have K2 := hid (A1.out.addBlk [.int .i64 0, .string ⟨#[]⟩, .string ⟨#[]⟩, .int .i64 0, .int .i64 0] 24)
     refine hK.out _ _ (PR.out _ [_] K2.out) (fun hHeld => ?_)
     clear hK K
     (try simp only [puS])
     refine wpAnyH_ready (rs := [9]) (by kernel_rfl) (by simp) ?_
     refine AllReadyH.cons (o := { dst := some 22, op := Go.Op.call { callee := Go.Callee.value (.func 134), args := #[.tmp 21], argTypes := #[27] }, type := 184, pos := "ref.go:224", after := #[{ on := 8, ground := Go.Ground.data }], guard := Option.none }) rfl (fun K hK => ?_) AllReadyH.nil
     go_simp
     go_at_call 134; refine (CO.out [_] _ K2.out).mono ?_; rintro r0 w3 ⟨rfl, B3⟩; have K3 := hid B3; clear B3
     refine hK.out _ _ (PR.out _ [_] K3.out) (fun hHeld => ?_)
     clear hK K
     (try simp only [puS])
     refine wpAnyH_take (i := 10) (oi := { dst := some 12, op := Go.Op.move (.tmp 22), type := 184, pos := "ref.go:224", after := #[{ on := 9, ground := Go.Ground.data }], guard := Option.none }) (v := ?_) rfl (by kernel_rfl) (by kernel_rfl) (by kernel_rfl) (fun _ _ _ h => h) (Or.inl ⟨by rfl, ?_⟩) hHeld ?_
     rotate_left
     · intro W hSw
       obtain ⟨s1, s2⟩ := hSw
       go_simp
       (try with_reducible rfl)
     (try simp only [puS])
     refine wpAnyH_take (i := 11) (oi := { dst := some 23, op := Go.Op.extract (.tmp 12) 0, type := 24, pos := "ref.go:224", after := #[{ on := 10, ground := Go.Ground.data }], guard := Option.none }) (v := ?_) rfl (by kernel_rfl) (by kernel_rfl) (by kernel_rfl) (fun _ _ _ h => h) (Or.inl ⟨by rfl, ?_⟩) hHeld ?_
     rotate_left
     · intro W hSw
       obtain ⟨s1, s2⟩ := hSw
       go_simp
       (try with_reducible rfl)
     (try simp only [puS])
     refine wpAnyH_take (i := 12) (oi := { dst := some 24, op := Go.Op.extract (.tmp 12) 1, type := 3, pos := "ref.go:224", after := #[{ on := 10, ground := Go.Ground.data }, { on := 15, ground := Go.Ground.gcOnly Go.Departure.lateStores }], guard := Option.none }) (v := ?_) rfl (by kernel_rfl) (by kernel_rfl) (by kernel_rfl) (fun _ _ _ h => h) (Or.inl ⟨by rfl, ?_⟩) hHeld ?_
     rotate_left
     · intro W hSw
       obtain ⟨s1, s2⟩ := hSw
       go_simp
       (try with_reducible rfl)
     (try simp only [puS])
     refine wpAnyH_take (i := 13) (oi := { dst := some 25, op := Go.Op.extract (.tmp 12) 2, type := 22, pos := "ref.go:224", after := #[{ on := 10, ground := Go.Ground.data }, { on := 16, ground := Go.Ground.gcOnly Go.Departure.lateStores }], guard := Option.none }) (v := ?_) rfl (by kernel_rfl) (by kernel_rfl) (by kernel_rfl) (fun _ _ _ h => h) (Or.inl ⟨by rfl, ?_⟩) hHeld ?_
     rotate_left
     · intro W hSw
       obtain ⟨s1, s2⟩ := hSw
       go_simp
       (try with_reducible rfl)
     (try simp only [puS])
     have KB := K3
     have KC := hid (KB.out.setRow (vs' := [.int .i64 r.o.k, .string ⟨r.o.nm.toArray⟩, .string ⟨r.o.tx.toArray⟩, .int .i64 (r.o.n : Int), .int .i64 (r.o.m : Int)]))
     refine wpAnyH_ready (rs := [15]) (by kernel_rfl) (by simp) ?_
     refine AllReadyH.cons (o := { dst := Option.none, op := Go.Op.store 24 (.tmp 3) (.tmp 23), type := 0, pos := "ref.go:224", after := #[{ on := 14, ground := Go.Ground.data }, { on := 11, ground := Go.Ground.data }, { on := 9, ground := Go.Ground.chain }, { on := 0, ground := Go.Ground.phase }, { on := 1, ground := Go.Ground.phase }, { on := 2, ground := Go.Ground.phase }, { on := 3, ground := Go.Ground.phase }, { on := 4, ground := Go.Ground.phase }, { on := 5, ground := Go.Ground.phase }, { on := 6, ground := Go.Ground.phase }, { on := 7, ground := Go.Ground.phase }, { on := 8, ground := Go.Ground.phase }, { on := 9, ground := Go.Ground.phase }, { on := 10, ground := Go.Ground.phase }, { on := 11, ground := Go.Ground.phase }, { on := 12, ground := Go.Ground.textOnly Go.Departure.lateStores }, { on := 13, ground := Go.Ground.textOnly Go.Departure.lateStores }, { on := 14, ground := Go.Ground.phase }], guard := Option.none }) rfl (fun K hK => ?_) AllReadyH.nil
     rw [if_pos (by rfl)]
     refine wp_store_row 24 _ _ rfl _ #[.int .i64 r.o.k, .string ⟨r.o.nm.toArray⟩, .string ⟨r.o.tx.toArray⟩, .int .i64 (r.o.n : Int), .int .i64 (r.o.m : Int)] rfl rfl 24 _ (KB.out.blk List.mem_cons_self) IO.out rfl OO.out ?_
     refine hK.out _ _ (PR.out _ [_] KC.out) (fun hHeld => ?_)
     clear hK K
     (try simp only [Act.put])
     refine wpAnyH_take (i := 16) (oi := { dst := some 4, op := Go.Op.assign (.tmp 24), type := 3, pos := "ref.go:224", after := #[{ on := 12, ground := Go.Ground.data }, { on := 15, ground := Go.Ground.chain }, { on := 0, ground := Go.Ground.phase }, { on := 1, ground := Go.Ground.phase }, { on := 2, ground := Go.Ground.phase }, { on := 3, ground := Go.Ground.phase }, { on := 4, ground := Go.Ground.phase }, { on := 5, ground := Go.Ground.phase }, { on := 6, ground := Go.Ground.phase }, { on := 7, ground := Go.Ground.phase }, { on := 8, ground := Go.Ground.phase }, { on := 9, ground := Go.Ground.phase }, { on := 10, ground := Go.Ground.phase }, { on := 11, ground := Go.Ground.phase }, { on := 12, ground := Go.Ground.phase }, { on := 13, ground := Go.Ground.textOnly Go.Departure.lateStores }, { on := 14, ground := Go.Ground.phase }, { on := 15, ground := Go.Ground.phase }], guard := Option.none }) (v := ?_) rfl (by kernel_rfl) (by kernel_rfl) (by kernel_rfl) (fun _ _ _ h => h) (Or.inl ⟨by rfl, ?_⟩) hHeld ?_
     rotate_left
     · intro W hSw
       obtain ⟨s1, s2⟩ := hSw
       go_simp
       (try with_reducible rfl)
     (try simp only [puS])
     refine wpAnyH_take (i := 17) (oi := { dst := some 5, op := Go.Op.assign (.tmp 25), type := 22, pos := "ref.go:224", after := #[{ on := 13, ground := Go.Ground.data }, { on := 16, ground := Go.Ground.chain }, { on := 0, ground := Go.Ground.phase }, { on := 1, ground := Go.Ground.phase }, { on := 2, ground := Go.Ground.phase }, { on := 3, ground := Go.Ground.phase }, { on := 4, ground := Go.Ground.phase }, { on := 5, ground := Go.Ground.phase }, { on := 6, ground := Go.Ground.phase }, { on := 7, ground := Go.Ground.phase }, { on := 8, ground := Go.Ground.phase }, { on := 9, ground := Go.Ground.phase }, { on := 10, ground := Go.Ground.phase }, { on := 11, ground := Go.Ground.phase }, { on := 12, ground := Go.Ground.phase }, { on := 13, ground := Go.Ground.phase }, { on := 14, ground := Go.Ground.phase }, { on := 15, ground := Go.Ground.phase }, { on := 16, ground := Go.Ground.phase }], guard := Option.none }) (v := ?_) rfl (by kernel_rfl) (by kernel_rfl) (by kernel_rfl) (fun _ _ _ h => h) (Or.inl ⟨by rfl, ?_⟩) hHeld ?_
     rotate_left
     · intro W hSw
       obtain ⟨s1, s2⟩ := hSw
       go_simp
       (try with_reducible rfl)
     (try simp only [puS])
     refine wpAnyH_done (by kernel_rfl) ?_ _
     clear hHeld
     go_wp2_with fail
     go_meet
     exact ⟨_, rfl, rfl, rfl, KC⟩
 case rest =>
 obtain ⟨Gx, rfl, rfl, rfl, HK⟩ := hcut
 have P1 := hid (HK.out.perm (List.perm_middle (l₁ := [_, _])))
 have CF := hid (rfail_any (e := r.e) P1.out)
 go_upto_region 5 with (go_at_call 75; refine CF.out.mono ?_; rintro r0 w4 ⟨rfl, B4⟩; have K4 := hid B4; clear B4)
 have y1 := cell_in K4.out (P := R) (t := 130) (o := 1) List.mem_cons_self rfl
 have f1 := free_at (K4.out.blk List.mem_cons_self) 1
 have K5 := hid (K4.out.setBlk 1 (.int .i64 (((k + r.k : Nat)) : Int)))
 have wq : IntKind.i64.wrap ((k : Int) + (r.k : Int)) = (k : Int) + (r.k : Int) := by rw [IntKind.wrap_i64]; omega
 go_upto_region 6 with fail
 have sm : (k : Int) + (r.k : Int) = ((k + r.k : Nat) : Int) := by omega
 rw [sm]
 generalize w4.setCell _ _ = w5 at *
 clear y1 f1
 have HBx := hid (K5.out.blk (g := Gx) (t := 24) (List.mem_cons_of_mem _ List.mem_cons_self))
 have HBg := hid (K5.out.blk (g := w.heap.size) (t := 24) (List.mem_cons_of_mem _ (List.mem_cons_of_mem _ List.mem_cons_self)))
 have K6 := hid ((K5.out.perm (List.perm_middle (l₁ := [_, _]))).setRow (vs' := [.int .i64 r.o.k, .string ⟨r.o.nm.toArray⟩, .string ⟨r.o.tx.toArray⟩, .int .i64 (r.o.n : Int), .int .i64 (r.o.m : Int)]))
 go_wp2_with (first | (refine wpList_load_row rfl 24 _ rfl Gx rfl 24 #[.int .i64 r.o.k, .string ⟨r.o.nm.toArray⟩, .string ⟨r.o.tx.toArray⟩, .int .i64 (r.o.n : Int), .int .i64 (r.o.m : Int)] (0, 0) _ HBx.out Tryz.underlying24 rfl IO.out ?_) | (refine wpList_store_row rfl 24 _ _ rfl w.heap.size #[.int .i64 r.o.k, .string ⟨r.o.nm.toArray⟩, .string ⟨r.o.tx.toArray⟩, .int .i64 (r.o.n : Int), .int .i64 (r.o.m : Int)] rfl rfl 24 _ HBg.out IO.out rfl OO.out ?_))
 refine ret_op1 rfl rfl (K6.out.blk List.mem_cons_self) rfl rfl ⟨rfl, K6.out.tail.swap.tail⟩
theorem rop_no {R : Nat} {s : Value} {k : Nat} {x : Int} {cs : List Comp} {w : World} (hx : x ≠ 0) (A : All (rdB R s k x :: cs) w) :
   Calls Tryz.prog 109 #[.pointer (some ⟨R, 0, none⟩)] w fun e w' => e = .returned (opV 0 ⟨#[]⟩ ⟨#[]⟩ 0 0) ∧ All (rdB R s k x :: cs) w' := by
 have A1 := hid (A.addBlk [.int .i64 0, .string ⟨#[]⟩, .string ⟨#[]⟩, .int .i64 0, .int .i64 0] 24)
 have c2 : (w.alloc (.cells #[.int .i64 0, .string ⟨#[]⟩, .string ⟨#[]⟩, .int .i64 0, .int .i64 0] 24)).cell? ⟨R, 2, none⟩ = some (.int .i64 x) := cell_in A1.out (List.mem_cons_of_mem _ List.mem_cons_self) rfl
 have hx' : (x != 0) = true := by simpa using hx
 have HBg := hid (A1.out.blk (g := w.heap.size) (t := 24) List.mem_cons_self)
 have K6 := hid (A1.out.setRow (vs' := [.int .i64 0, .string ⟨#[]⟩, .string ⟨#[]⟩, .int .i64 0, .int .i64 0]))
 have IO : Hid ((Tryz.prog.info? 24).map (·.size) = some (#[.int .i64 0, .string ⟨#[]⟩, .string ⟨#[]⟩, .int .i64 0, .int .i64 0] : Array Value).size) := hid (by kernel_rfl)
 have OO : Hid ((#[.int .i64 0, .string ⟨#[]⟩, .string ⟨#[]⟩, .int .i64 0, .int .i64 0] : Array Value).all (·.oneCell') = true) := hid (by kernel_rfl)
 clear A
 go_enter Tryz.func109, Tryz.ntmps109
 go_wp2_with (refine wpList_store_row rfl 24 _ _ rfl w.heap.size #[.int .i64 0, .string ⟨#[]⟩, .string ⟨#[]⟩, .int .i64 0, .int .i64 0] rfl rfl 24 _ HBg.out IO.out rfl OO.out ?_)
 exact ret_op1 rfl rfl (K6.out.blk List.mem_cons_self) rfl rfl ⟨rfl, K6.out.tail⟩
def dO (l : Ws) (k : Nat) (x : Int) : RO := if x ≠ 0 then .bad 0 else readO (l.drop k)
theorem rop_doc {R g c : Nat} {l : Ws} {k : Nat} {x : Int} {cs : List Comp} {w : World} (hk : k ≤ l.length) (hl : l.length ≤ 140737488355328) (hs : ∀ y ∈ l, y.length ≤ 140737488355328) (hS : ∀ W, All cs W → Rt W (.slice (some ⟨g, 0, none⟩) l.length c) l) (A : All (rdB R (.slice (some ⟨g, 0, none⟩) l.length c) k x :: cs) w) :
   Calls Tryz.prog 109 #[.pointer (some ⟨R, 0, none⟩)] w fun e w' => e = .returned (opV (dO l k x).o.k ⟨(dO l k x).o.nm.toArray⟩ ⟨(dO l k x).o.tx.toArray⟩ ((dO l k x).o.n : Int) ((dO l k x).o.m : Int)) ∧ All (rdB R (.slice (some ⟨g, 0, none⟩) l.length c) (k + (dO l k x).k) (flE x (dO l k x).e) :: cs) w' := by
 by_cases hx : x = 0
 · subst hx
   have : dO l k 0 = readO (l.drop k) := by unfold dO; rw [if_neg (by simp)]
   rw [this]
   exact rop0 hk hl hs hS A
 · have : dO l k x = .bad 0 := by unfold dO; rw [if_pos hx]
   rw [this]
   have e1 : flE x (RO.bad 0).e = x := by unfold flE; rw [if_neg hx]
   rw [e1]
   exact rop_no hx A
set_option linter.unusedVariables false
set_option maxRecDepth 1000000
set_option maxHeartbeats 3200000
theorem ret_rs1 {fn : Func} (hf : fn.results = #[.cell 2 29]) {R : Ending → World → Prop} {a : Act} {w : World} {b : Nat} {EC : List Value} (ht : a.tmps.getD 2 undef = ptr b) (hg : w.heap[b]? = some (.cells EC.toArray 29 (0, 0))) (hs : EC.length = 3) (hd : a.defers = []) (hR : R (.returned (.agg EC.toArray)) w) : bodyPost Tryz.prog fn R .ret a w := by
 refine bodyPost_ret (v := .agg EC.toArray) ?_ hd hR
 have hp : a.tmps[2]?.getD undef = ptr b := by rw [← ht]; simp
 simp [results, hf, hp, asAddr, run_loadVar_row w b 29 29 EC.toArray (0, 0) _ hg Tryz.underlying29 rfl (by rw [List.size_toArray, hs]; kernel_rfl)]
theorem rres0 {R g c : Nat} {l : Ws} {k : Nat} {cs : List Comp} {w : World} (hk : k ≤ l.length) (hl16 : l.length * 16 ≤ 140737488355328) (hs : ∀ y ∈ l, y.length ≤ 140737488355328) (hS : ∀ W, All cs W → Rt W (.slice (some ⟨g, 0, none⟩) l.length c) l) (A : All (rdB R (.slice (some ⟨g, 0, none⟩) l.length c) k 0 :: cs) w) :
   Calls Tryz.prog 110 #[.pointer (some ⟨R, 0, none⟩)] w fun e w' => ∃ va vc, e = .returned (.agg #[.int .i64 (readR (l.drop k)).c, .int .i64 (readR (l.drop k)).n, .slice va (readR (l.drop k)).items.length vc]) ∧ All (ownC 9 (.slice va (readR (l.drop k)).items.length vc) (txW (readR (l.drop k)).items) :: rdB R (.slice (some ⟨g, 0, none⟩) l.length c) (k + (readR (l.drop k)).k) (flE 0 (readR (l.drop k)).e) :: cs) w' := by
 have c2 : (w.alloc (.cells #[.int .i64 0, .int .i64 0, .slice none 0 0] 29)).cell? ⟨R, 2, none⟩ = some (.int .i64 0) := cell_in (A.addBlk [.int .i64 0, .int .i64 0, .slice none 0 0] 29) (List.mem_cons_of_mem _ List.mem_cons_self) rfl
 obtain ⟨aq, cq, cu, _⟩ := cut_l (hS w A.tail) hk rfl
 have hl : l.length ≤ 140737488355328 := by omega
 have CO : Hid (∀ ds W, All (ds ++ blkC w.heap.size [.int .i64 0, .int .i64 0, .slice none 0 0] 29 :: rdB R (.slice (some ⟨g, 0, none⟩) l.length c) k 0 :: cs) W → Calls Tryz.prog 135 #[.slice aq (l.length - k) cq] W fun en w' => ∃ va vc, en = .returned (.tuple #[.agg #[.int .i64 (readR (l.drop k)).c, .int .i64 (readR (l.drop k)).n, .slice va (readR (l.drop k)).items.length vc], .int .i64 ((readR (l.drop k)).k : Int), .int .i64 (readR (l.drop k)).e]) ∧ All (ownC 9 (.slice va (readR (l.drop k)).items.length vc) (txW (readR (l.drop k)).items) :: (ds ++ blkC w.heap.size [.int .i64 0, .int .i64 0, .slice none 0 0] 29 :: rdB R (.slice (some ⟨g, 0, none⟩) l.length c) k 0 :: cs)) w') := hid (fun ds W h => by
   obtain ⟨a2, c3, cu2, h2⟩ := cut_l (hS W (dropA h).tail.tail) hk rfl
   have := (cu W).symm.trans (cu2 W)
   simp only [Result.ok.injEq, Value.slice.injEq] at this
   obtain ⟨⟨rfl, _, rfl⟩, _⟩ := this
   refine (rReadResult_any h h2 (by simp; omega) (fun y hy => hs y (List.mem_of_mem_drop hy))).mono ?_
   rintro en w' ⟨v, rfl, hA⟩
   obtain ⟨va, vc, rfl⟩ := owns_form hA.1.2.1
   rw [txW_length] at hA
   rw [txW_length]
   exact ⟨va, vc, rfl, hA⟩)
 have PR : Hid (∀ W ds, All (ds ++ blkC w.heap.size [.int .i64 0, .int .i64 0, .slice none 0 0] 29 :: rdB R (.slice (some ⟨g, 0, none⟩) l.length c) k 0 :: cs) W → W.cell? ⟨R, 0, none⟩ = some (.slice (some ⟨g, 0, none⟩) l.length c) ∧ W.cell? ⟨R, 1, none⟩ = some (.int .i64 (k : Int))) := hid (fun W ds h => ⟨cell_in h (List.mem_append_right _ (List.mem_cons_of_mem _ List.mem_cons_self)) rfl, cell_in h (List.mem_append_right _ (List.mem_cons_of_mem _ List.mem_cons_self)) rfl⟩)
 have A1 := hid (A.addBlk [.int .i64 0, .int .i64 0, .slice none 0 0] 29).drew
 have RK : (readR (l.drop k)).k ≤ l.length - k := by have := readR_le (l.drop k); simpa using this
 generalize readR (l.drop k) = r at *
 have IO : Hid (∀ (va : Option Addr) (vc : Nat), (Tryz.prog.info? 29).map (·.size) = some (#[.int .i64 r.c, .int .i64 r.n, .slice va r.items.length vc] : Array Value).size) := hid (fun _ _ => by kernel_rfl)
 have OO : Hid (∀ (va : Option Addr) (vc : Nat), (#[.int .i64 r.c, .int .i64 r.n, .slice va r.items.length vc] : Array Value).all (·.oneCell') = true) := hid (fun _ _ => by kernel_rfl)
 clear A hS hs hl16
 generalize l.length = n at *
 go_enter Tryz.func110, Tryz.ntmps110
 go_upto_region 3 with fail
 go_cut [3, 4, 5] (fun v3 v4 v5 wx => ∃ Gx va vc, v3 = ptr Gx ∧ v4 = .int .i64 (r.k : Int) ∧ v5 = .int .i64 r.e ∧ Hid (All (blkC Gx [.int .i64 r.c, .int .i64 r.n, .slice va r.items.length vc] 29 :: ownC 9 (.slice va r.items.length vc) (txW r.items) :: blkC w.heap.size [.int .i64 0, .int .i64 0, .slice none 0 0] 29 :: rdB R (.slice (some ⟨g, 0, none⟩) n c) k 0 :: cs) wx))
 case first =>
   have hHeld0 := PR.out _ [] A1.out
   refine wp_region_held_drew (S := (fun W => W.cell? ⟨R, 0, none⟩ = some (.slice (some ⟨g, 0, none⟩) n c) ∧ W.cell? ⟨R, 1, none⟩ = some (.int .i64 (k : Int)))) (by kernel_rfl) hHeld0 (fun hHeld => ?_)
   generalize World.drew _ = wd at *
   refine wpAnyH_take (i := 0) (oi := { dst := some 13, op := Go.Op.move (.tmp 0), type := 128, pos := "ref.go:234", after := #[], guard := Option.none }) (v := ?_) rfl (by kernel_rfl) (by kernel_rfl) (by kernel_rfl) (fun _ _ _ h => h) (Or.inl ⟨by rfl, ?_⟩) hHeld ?_
   rotate_left
   · intro W hSw
     obtain ⟨s1, s2⟩ := hSw
     go_simp
     (try with_reducible rfl)
   (try simp only [puS])
   refine wpAnyH_take (i := 1) (oi := { dst := some 14, op := Go.Op.nilCheck (.tmp 13), type := 0, pos := "ref.go:234", after := #[{ on := 0, ground := Go.Ground.data }], guard := Option.none }) (v := ?_) rfl (by kernel_rfl) (by kernel_rfl) (by kernel_rfl) (fun _ _ _ h => h) (Or.inl ⟨by rfl, ?_⟩) hHeld ?_
   rotate_left
   · intro W hSw
     obtain ⟨s1, s2⟩ := hSw
     go_simp
     (try with_reducible rfl)
   (try simp only [puS])
   refine wpAnyH_take (i := 2) (oi := { dst := some 15, op := Go.Op.fieldAddr 130 (.tmp 14) 0, type := 0, pos := "ref.go:234", after := #[{ on := 1, ground := Go.Ground.data }], guard := Option.none }) (v := ?_) rfl (by kernel_rfl) (by kernel_rfl) (by kernel_rfl) (fun _ _ _ h => h) (Or.inl ⟨by rfl, ?_⟩) hHeld ?_
   rotate_left
   · intro W hSw
     obtain ⟨s1, s2⟩ := hSw
     go_simp
     (try with_reducible rfl)
   (try simp only [puS])
   refine wpAnyH_take (i := 3) (oi := { dst := some 16, op := Go.Op.load 27 (.tmp 15), type := 27, pos := "ref.go:234", after := #[{ on := 2, ground := Go.Ground.data }], guard := Option.none }) (v := ?_) rfl (by kernel_rfl) (by kernel_rfl) (by kernel_rfl) (fun _ _ _ h => h) (Or.inl ⟨by rfl, ?_⟩) hHeld ?_
   rotate_left
   · intro W hSw
     obtain ⟨s1, s2⟩ := hSw
     go_simp
     (try with_reducible rfl)
   (try simp only [puS])
   refine wpAnyH_take (i := 4) (oi := { dst := some 17, op := Go.Op.move (.tmp 0), type := 128, pos := "ref.go:234", after := #[], guard := Option.none }) (v := ?_) rfl (by kernel_rfl) (by kernel_rfl) (by kernel_rfl) (fun _ _ _ h => h) (Or.inl ⟨by rfl, ?_⟩) hHeld ?_
   rotate_left
   · intro W hSw
     obtain ⟨s1, s2⟩ := hSw
     go_simp
     (try with_reducible rfl)
   (try simp only [puS])
   refine wpAnyH_take (i := 5) (oi := { dst := some 18, op := Go.Op.nilCheck (.tmp 17), type := 0, pos := "ref.go:234", after := #[{ on := 4, ground := Go.Ground.data }], guard := Option.none }) (v := ?_) rfl (by kernel_rfl) (by kernel_rfl) (by kernel_rfl) (fun _ _ _ h => h) (Or.inl ⟨by rfl, ?_⟩) hHeld ?_
   rotate_left
   · intro W hSw
     obtain ⟨s1, s2⟩ := hSw
     go_simp
     (try with_reducible rfl)
   (try simp only [puS])
   refine wpAnyH_take (i := 6) (oi := { dst := some 19, op := Go.Op.fieldAddr 130 (.tmp 18) 1, type := 0, pos := "ref.go:234", after := #[{ on := 5, ground := Go.Ground.data }], guard := Option.none }) (v := ?_) rfl (by kernel_rfl) (by kernel_rfl) (by kernel_rfl) (fun _ _ _ h => h) (Or.inl ⟨by rfl, ?_⟩) hHeld ?_
   rotate_left
   · intro W hSw
     obtain ⟨s1, s2⟩ := hSw
     go_simp
     (try with_reducible rfl)
   (try simp only [puS])
   refine wpAnyH_take (i := 7) (oi := { dst := some 20, op := Go.Op.load 3 (.tmp 19), type := 3, pos := "ref.go:234", after := #[{ on := 6, ground := Go.Ground.data }], guard := Option.none }) (v := ?_) rfl (by kernel_rfl) (by kernel_rfl) (by kernel_rfl) (fun _ _ _ h => h) (Or.inl ⟨by rfl, ?_⟩) hHeld ?_
   rotate_left
   · intro W hSw
     obtain ⟨s1, s2⟩ := hSw
     go_simp
     (try with_reducible rfl)
   (try simp only [puS])
   refine wpAnyH_take (i := 8) (oi := { dst := some 21, op := Go.Op.slice 27 (.tmp 16) (some (.tmp 20)) Option.none Option.none, type := 27, pos := "ref.go:234", after := #[{ on := 3, ground := Go.Ground.data }, { on := 7, ground := Go.Ground.data }], guard := Option.none }) (v := ?_) rfl (by kernel_rfl) (by kernel_rfl) (by kernel_rfl) (fun _ _ _ h => h) (Or.inl ⟨by rfl, ?_⟩) hHeld ?_
   rotate_left
   · intro W hSw
     obtain ⟨s1, s2⟩ := hSw
     go_simp
     (try with_reducible rfl)
   (try simp only [puS])
   refine wpAnyH_ready (rs := [9, 14]) (by kernel_rfl) (by simp) ?_
   refine AllReadyH.cons (o := { dst := some 22, op := Go.Op.call { callee := Go.Callee.value (.func 135), args := #[.tmp 21], argTypes := #[27] }, type := 186, pos := "ref.go:234", after := #[{ on := 8, ground := Go.Ground.data }], guard := Option.none }) rfl (fun K hK => ?_) (AllReadyH.cons (o := { dst := some 3, op := Go.Op.alloc 29, type := 0, pos := "ref.go:234", after := #[], guard := Option.none }) rfl (fun K hK => ?_) AllReadyH.nil)
   · skip
     go_simp
     go_at_call 135; refine (CO.out [] _ A1.out).mono ?_; rintro r0 w2 ⟨va, vc, rfl, B2⟩; have K2 := hid B2; clear B2
     refine hK.out _ _ (PR.out _ [_] K2.out) (fun hHeld => ?_)
     clear hK K
     (try simp only [puS])
     refine wpAnyH_take (i := 10) (oi := { dst := some 12, op := Go.Op.move (.tmp 22), type := 186, pos := "ref.go:234", after := #[{ on := 9, ground := Go.Ground.data }], guard := Option.none }) (v := ?_) rfl (by kernel_rfl) (by kernel_rfl) (by kernel_rfl) (fun _ _ _ h => h) (Or.inl ⟨by rfl, ?_⟩) hHeld ?_
     rotate_left
     · intro W hSw
       obtain ⟨s1, s2⟩ := hSw
       go_simp
       (try with_reducible rfl)
     (try simp only [puS])
     refine wpAnyH_take (i := 11) (oi := { dst := some 23, op := Go.Op.extract (.tmp 12) 0, type := 29, pos := "ref.go:234", after := #[{ on := 10, ground := Go.Ground.data }], guard := Option.none }) (v := ?_) rfl (by kernel_rfl) (by kernel_rfl) (by kernel_rfl) (fun _ _ _ h => h) (Or.inl ⟨by rfl, ?_⟩) hHeld ?_
     rotate_left
     · intro W hSw
       obtain ⟨s1, s2⟩ := hSw
       go_simp
       (try with_reducible rfl)
     (try simp only [puS])
     refine wpAnyH_take (i := 12) (oi := { dst := some 24, op := Go.Op.extract (.tmp 12) 1, type := 3, pos := "ref.go:234", after := #[{ on := 10, ground := Go.Ground.data }, { on := 15, ground := Go.Ground.gcOnly Go.Departure.lateStores }], guard := Option.none }) (v := ?_) rfl (by kernel_rfl) (by kernel_rfl) (by kernel_rfl) (fun _ _ _ h => h) (Or.inl ⟨by rfl, ?_⟩) hHeld ?_
     rotate_left
     · intro W hSw
       obtain ⟨s1, s2⟩ := hSw
       go_simp
       (try with_reducible rfl)
     (try simp only [puS])
     refine wpAnyH_take (i := 13) (oi := { dst := some 25, op := Go.Op.extract (.tmp 12) 2, type := 22, pos := "ref.go:234", after := #[{ on := 10, ground := Go.Ground.data }, { on := 16, ground := Go.Ground.gcOnly Go.Departure.lateStores }], guard := Option.none }) (v := ?_) rfl (by kernel_rfl) (by kernel_rfl) (by kernel_rfl) (fun _ _ _ h => h) (Or.inl ⟨by rfl, ?_⟩) hHeld ?_
     rotate_left
     · intro W hSw
       obtain ⟨s1, s2⟩ := hSw
       go_simp
       (try with_reducible rfl)
     (try simp only [puS])
     refine wpAnyH_ready (rs := [14]) (by kernel_rfl) (by simp) ?_
     refine AllReadyH.cons (o := { dst := some 3, op := Go.Op.alloc 29, type := 0, pos := "ref.go:234", after := #[], guard := Option.none }) rfl (fun K hK => ?_) AllReadyH.nil
     go_simp
     refine hK.out _ _ (PR.out _ [_, _] (K2.out.addBlk [.int .i64 0, .int .i64 0, .slice none 0 0] 29)) (fun hHeld => ?_)
     clear hK K
     (try simp only [puS])
     have KB := hid (K2.out.addBlk [.int .i64 0, .int .i64 0, .slice none 0 0] 29)
     have KC := hid (KB.out.setRow (vs' := [.int .i64 r.c, .int .i64 r.n, .slice va r.items.length vc]))
     refine wpAnyH_ready (rs := [15]) (by kernel_rfl) (by simp) ?_
     refine AllReadyH.cons (o := { dst := Option.none, op := Go.Op.store 29 (.tmp 3) (.tmp 23), type := 0, pos := "ref.go:234", after := #[{ on := 14, ground := Go.Ground.data }, { on := 11, ground := Go.Ground.data }, { on := 9, ground := Go.Ground.chain }, { on := 0, ground := Go.Ground.phase }, { on := 1, ground := Go.Ground.phase }, { on := 2, ground := Go.Ground.phase }, { on := 3, ground := Go.Ground.phase }, { on := 4, ground := Go.Ground.phase }, { on := 5, ground := Go.Ground.phase }, { on := 6, ground := Go.Ground.phase }, { on := 7, ground := Go.Ground.phase }, { on := 8, ground := Go.Ground.phase }, { on := 9, ground := Go.Ground.phase }, { on := 10, ground := Go.Ground.phase }, { on := 11, ground := Go.Ground.phase }, { on := 12, ground := Go.Ground.textOnly Go.Departure.lateStores }, { on := 13, ground := Go.Ground.textOnly Go.Departure.lateStores }, { on := 14, ground := Go.Ground.phase }], guard := Option.none }) rfl (fun K hK => ?_) AllReadyH.nil
     rw [if_pos (by rfl)]
     refine wp_store_row 29 _ _ rfl _ #[.int .i64 r.c, .int .i64 r.n, .slice va r.items.length vc] rfl rfl 29 _ (KB.out.blk List.mem_cons_self) (IO.out va vc) rfl (OO.out va vc) ?_
     refine hK.out _ _ (PR.out _ [_, _] KC.out) (fun hHeld => ?_)
     clear hK K
     (try simp only [Act.put])
     refine wpAnyH_take (i := 16) (oi := { dst := some 4, op := Go.Op.assign (.tmp 24), type := 3, pos := "ref.go:234", after := #[{ on := 12, ground := Go.Ground.data }, { on := 15, ground := Go.Ground.chain }, { on := 0, ground := Go.Ground.phase }, { on := 1, ground := Go.Ground.phase }, { on := 2, ground := Go.Ground.phase }, { on := 3, ground := Go.Ground.phase }, { on := 4, ground := Go.Ground.phase }, { on := 5, ground := Go.Ground.phase }, { on := 6, ground := Go.Ground.phase }, { on := 7, ground := Go.Ground.phase }, { on := 8, ground := Go.Ground.phase }, { on := 9, ground := Go.Ground.phase }, { on := 10, ground := Go.Ground.phase }, { on := 11, ground := Go.Ground.phase }, { on := 12, ground := Go.Ground.phase }, { on := 13, ground := Go.Ground.textOnly Go.Departure.lateStores }, { on := 14, ground := Go.Ground.phase }, { on := 15, ground := Go.Ground.phase }], guard := Option.none }) (v := ?_) rfl (by kernel_rfl) (by kernel_rfl) (by kernel_rfl) (fun _ _ _ h => h) (Or.inl ⟨by rfl, ?_⟩) hHeld ?_
     rotate_left
     · intro W hSw
       obtain ⟨s1, s2⟩ := hSw
       go_simp
       (try with_reducible rfl)
     (try simp only [puS])
     refine wpAnyH_take (i := 17) (oi := { dst := some 5, op := Go.Op.assign (.tmp 25), type := 22, pos := "ref.go:234", after := #[{ on := 13, ground := Go.Ground.data }, { on := 16, ground := Go.Ground.chain }, { on := 0, ground := Go.Ground.phase }, { on := 1, ground := Go.Ground.phase }, { on := 2, ground := Go.Ground.phase }, { on := 3, ground := Go.Ground.phase }, { on := 4, ground := Go.Ground.phase }, { on := 5, ground := Go.Ground.phase }, { on := 6, ground := Go.Ground.phase }, { on := 7, ground := Go.Ground.phase }, { on := 8, ground := Go.Ground.phase }, { on := 9, ground := Go.Ground.phase }, { on := 10, ground := Go.Ground.phase }, { on := 11, ground := Go.Ground.phase }, { on := 12, ground := Go.Ground.phase }, { on := 13, ground := Go.Ground.phase }, { on := 14, ground := Go.Ground.phase }, { on := 15, ground := Go.Ground.phase }, { on := 16, ground := Go.Ground.phase }], guard := Option.none }) (v := ?_) rfl (by kernel_rfl) (by kernel_rfl) (by kernel_rfl) (fun _ _ _ h => h) (Or.inl ⟨by rfl, ?_⟩) hHeld ?_
     rotate_left
     · intro W hSw
       obtain ⟨s1, s2⟩ := hSw
       go_simp
       (try with_reducible rfl)
     (try simp only [puS])
     refine wpAnyH_done (by kernel_rfl) ?_ _
     clear hHeld
     go_wp2_with fail
     go_meet
     exact ⟨_, va, vc, rfl, rfl, rfl, KC⟩
   · skip
     go_simp
     have K2 := hid (A1.out.addBlk [.int .i64 0, .int .i64 0, .slice none 0 0] 29)
     refine hK.out _ _ (PR.out _ [_] K2.out) (fun hHeld => ?_)
     clear hK K
     (try simp only [puS])
     refine wpAnyH_ready (rs := [9]) (by kernel_rfl) (by simp) ?_
     refine AllReadyH.cons (o := { dst := some 22, op := Go.Op.call { callee := Go.Callee.value (.func 135), args := #[.tmp 21], argTypes := #[27] }, type := 186, pos := "ref.go:234", after := #[{ on := 8, ground := Go.Ground.data }], guard := Option.none }) rfl (fun K hK => ?_) AllReadyH.nil
     go_simp
     go_at_call 135; refine (CO.out [_] _ K2.out).mono ?_; rintro r0 w3 ⟨va, vc, rfl, B3⟩; have K3 := hid B3; clear B3
     refine hK.out _ _ (PR.out _ [_, _] K3.out) (fun hHeld => ?_)
     clear hK K
     (try simp only [puS])
     refine wpAnyH_take (i := 10) (oi := { dst := some 12, op := Go.Op.move (.tmp 22), type := 186, pos := "ref.go:234", after := #[{ on := 9, ground := Go.Ground.data }], guard := Option.none }) (v := ?_) rfl (by kernel_rfl) (by kernel_rfl) (by kernel_rfl) (fun _ _ _ h => h) (Or.inl ⟨by rfl, ?_⟩) hHeld ?_
     rotate_left
     · intro W hSw
       obtain ⟨s1, s2⟩ := hSw
       go_simp
       (try with_reducible rfl)
     (try simp only [puS])
     refine wpAnyH_take (i := 11) (oi := { dst := some 23, op := Go.Op.extract (.tmp 12) 0, type := 29, pos := "ref.go:234", after := #[{ on := 10, ground := Go.Ground.data }], guard := Option.none }) (v := ?_) rfl (by kernel_rfl) (by kernel_rfl) (by kernel_rfl) (fun _ _ _ h => h) (Or.inl ⟨by rfl, ?_⟩) hHeld ?_
     rotate_left
     · intro W hSw
       obtain ⟨s1, s2⟩ := hSw
       go_simp
       (try with_reducible rfl)
     (try simp only [puS])
     refine wpAnyH_take (i := 12) (oi := { dst := some 24, op := Go.Op.extract (.tmp 12) 1, type := 3, pos := "ref.go:234", after := #[{ on := 10, ground := Go.Ground.data }, { on := 15, ground := Go.Ground.gcOnly Go.Departure.lateStores }], guard := Option.none }) (v := ?_) rfl (by kernel_rfl) (by kernel_rfl) (by kernel_rfl) (fun _ _ _ h => h) (Or.inl ⟨by rfl, ?_⟩) hHeld ?_
     rotate_left
     · intro W hSw
       obtain ⟨s1, s2⟩ := hSw
       go_simp
       (try with_reducible rfl)
     (try simp only [puS])
     refine wpAnyH_take (i := 13) (oi := { dst := some 25, op := Go.Op.extract (.tmp 12) 2, type := 22, pos := "ref.go:234", after := #[{ on := 10, ground := Go.Ground.data }, { on := 16, ground := Go.Ground.gcOnly Go.Departure.lateStores }], guard := Option.none }) (v := ?_) rfl (by kernel_rfl) (by kernel_rfl) (by kernel_rfl) (fun _ _ _ h => h) (Or.inl ⟨by rfl, ?_⟩) hHeld ?_
     rotate_left
     · intro W hSw
       obtain ⟨s1, s2⟩ := hSw
       go_simp
       (try with_reducible rfl)
     (try simp only [puS])
     have KB := hid K3.out.swap
     have KC := hid (KB.out.setRow (vs' := [.int .i64 r.c, .int .i64 r.n, .slice va r.items.length vc]))
     refine wpAnyH_ready (rs := [15]) (by kernel_rfl) (by simp) ?_
     refine AllReadyH.cons (o := { dst := Option.none, op := Go.Op.store 29 (.tmp 3) (.tmp 23), type := 0, pos := "ref.go:234", after := #[{ on := 14, ground := Go.Ground.data }, { on := 11, ground := Go.Ground.data }, { on := 9, ground := Go.Ground.chain }, { on := 0, ground := Go.Ground.phase }, { on := 1, ground := Go.Ground.phase }, { on := 2, ground := Go.Ground.phase }, { on := 3, ground := Go.Ground.phase }, { on := 4, ground := Go.Ground.phase }, { on := 5, ground := Go.Ground.phase }, { on := 6, ground := Go.Ground.phase }, { on := 7, ground := Go.Ground.phase }, { on := 8, ground := Go.Ground.phase }, { on := 9, ground := Go.Ground.phase }, { on := 10, ground := Go.Ground.phase }, { on := 11, ground := Go.Ground.phase }, { on := 12, ground := Go.Ground.textOnly Go.Departure.lateStores }, { on := 13, ground := Go.Ground.textOnly Go.Departure.lateStores }, { on := 14, ground := Go.Ground.phase }], guard := Option.none }) rfl (fun K hK => ?_) AllReadyH.nil
     rw [if_pos (by rfl)]
     refine wp_store_row 29 _ _ rfl _ #[.int .i64 r.c, .int .i64 r.n, .slice va r.items.length vc] rfl rfl 29 _ (KB.out.blk List.mem_cons_self) (IO.out va vc) rfl (OO.out va vc) ?_
     refine hK.out _ _ (PR.out _ [_, _] KC.out) (fun hHeld => ?_)
     clear hK K
     (try simp only [Act.put])
     refine wpAnyH_take (i := 16) (oi := { dst := some 4, op := Go.Op.assign (.tmp 24), type := 3, pos := "ref.go:234", after := #[{ on := 12, ground := Go.Ground.data }, { on := 15, ground := Go.Ground.chain }, { on := 0, ground := Go.Ground.phase }, { on := 1, ground := Go.Ground.phase }, { on := 2, ground := Go.Ground.phase }, { on := 3, ground := Go.Ground.phase }, { on := 4, ground := Go.Ground.phase }, { on := 5, ground := Go.Ground.phase }, { on := 6, ground := Go.Ground.phase }, { on := 7, ground := Go.Ground.phase }, { on := 8, ground := Go.Ground.phase }, { on := 9, ground := Go.Ground.phase }, { on := 10, ground := Go.Ground.phase }, { on := 11, ground := Go.Ground.phase }, { on := 12, ground := Go.Ground.phase }, { on := 13, ground := Go.Ground.textOnly Go.Departure.lateStores }, { on := 14, ground := Go.Ground.phase }, { on := 15, ground := Go.Ground.phase }], guard := Option.none }) (v := ?_) rfl (by kernel_rfl) (by kernel_rfl) (by kernel_rfl) (fun _ _ _ h => h) (Or.inl ⟨by rfl, ?_⟩) hHeld ?_
     rotate_left
     · intro W hSw
       obtain ⟨s1, s2⟩ := hSw
       go_simp
       (try with_reducible rfl)
     (try simp only [puS])
     refine wpAnyH_take (i := 17) (oi := { dst := some 5, op := Go.Op.assign (.tmp 25), type := 22, pos := "ref.go:234", after := #[{ on := 13, ground := Go.Ground.data }, { on := 16, ground := Go.Ground.chain }, { on := 0, ground := Go.Ground.phase }, { on := 1, ground := Go.Ground.phase }, { on := 2, ground := Go.Ground.phase }, { on := 3, ground := Go.Ground.phase }, { on := 4, ground := Go.Ground.phase }, { on := 5, ground := Go.Ground.phase }, { on := 6, ground := Go.Ground.phase }, { on := 7, ground := Go.Ground.phase }, { on := 8, ground := Go.Ground.phase }, { on := 9, ground := Go.Ground.phase }, { on := 10, ground := Go.Ground.phase }, { on := 11, ground := Go.Ground.phase }, { on := 12, ground := Go.Ground.phase }, { on := 13, ground := Go.Ground.phase }, { on := 14, ground := Go.Ground.phase }, { on := 15, ground := Go.Ground.phase }, { on := 16, ground := Go.Ground.phase }], guard := Option.none }) (v := ?_) rfl (by kernel_rfl) (by kernel_rfl) (by kernel_rfl) (fun _ _ _ h => h) (Or.inl ⟨by rfl, ?_⟩) hHeld ?_
     rotate_left
     · intro W hSw
       obtain ⟨s1, s2⟩ := hSw
       go_simp
       (try with_reducible rfl)
     (try simp only [puS])
     refine wpAnyH_done (by kernel_rfl) ?_ _
     clear hHeld
     go_wp2_with fail
     go_meet
     exact ⟨_, va, vc, rfl, rfl, rfl, KC⟩
 case rest =>
 obtain ⟨Gx, va, vc, rfl, rfl, rfl, HK⟩ := hcut
 have P1 := hid (HK.out.perm (List.perm_middle (l₁ := [_, _, _])))
 have CF := hid (rfail_any (e := r.e) P1.out)
 go_upto_region 5 with (go_at_call 75; refine CF.out.mono ?_; rintro r0 w4 ⟨rfl, B4⟩; have K4 := hid B4; clear B4)
 have y1 := cell_in K4.out (P := R) (t := 130) (o := 1) List.mem_cons_self rfl
 have f1 := free_at (K4.out.blk List.mem_cons_self) 1
 have K5 := hid (K4.out.setBlk 1 (.int .i64 (((k + r.k : Nat)) : Int)))
 have wq : IntKind.i64.wrap ((k : Int) + (r.k : Int)) = (k : Int) + (r.k : Int) := by rw [IntKind.wrap_i64]; omega
 go_upto_region 6 with fail
 have sm : (k : Int) + (r.k : Int) = ((k + r.k : Nat) : Int) := by omega
 rw [sm]
 generalize w4.setCell _ _ = w5 at *
 clear y1 f1
 have HBx := hid (K5.out.blk (g := Gx) (t := 29) (List.mem_cons_of_mem _ List.mem_cons_self))
 have HBg := hid (K5.out.blk (g := w.heap.size) (t := 29) (List.mem_cons_of_mem _ (List.mem_cons_of_mem _ (List.mem_cons_of_mem _ List.mem_cons_self))))
 have K6 := hid ((K5.out.perm (List.perm_middle (l₁ := [_, _, _]))).setRow (vs' := [.int .i64 r.c, .int .i64 r.n, .slice va r.items.length vc]))
 go_wp2_with (first | (refine wpList_load_row rfl 29 _ rfl Gx rfl 29 #[.int .i64 r.c, .int .i64 r.n, .slice va r.items.length vc] (0, 0) _ HBx.out Tryz.underlying29 rfl (IO.out va vc) ?_) | (refine wpList_store_row rfl 29 _ _ rfl w.heap.size #[.int .i64 r.c, .int .i64 r.n, .slice va r.items.length vc] rfl rfl 29 _ HBg.out (IO.out va vc) rfl (OO.out va vc) ?_))
 refine ret_rs1 rfl rfl (K6.out.blk List.mem_cons_self) rfl rfl ⟨va, vc, rfl, K6.out.tail.swap.tail.swap⟩
theorem rres_no {R : Nat} {s : Value} {k : Nat} {x : Int} {cs : List Comp} {w : World} (hx : x ≠ 0) (A : All (rdB R s k x :: cs) w) :
   Calls Tryz.prog 110 #[.pointer (some ⟨R, 0, none⟩)] w fun e w' => e = .returned (.agg #[.int .i64 0, .int .i64 0, .slice none 0 0]) ∧ All (rdB R s k x :: cs) w' := by
 have A1 := hid (A.addBlk [.int .i64 0, .int .i64 0, .slice none 0 0] 29)
 have c2 : (w.alloc (.cells #[.int .i64 0, .int .i64 0, .slice none 0 0] 29)).cell? ⟨R, 2, none⟩ = some (.int .i64 x) := cell_in A1.out (List.mem_cons_of_mem _ List.mem_cons_self) rfl
 have hx' : (x != 0) = true := by simpa using hx
 have HBg := hid (A1.out.blk (g := w.heap.size) (t := 29) List.mem_cons_self)
 have K6 := hid (A1.out.setRow (vs' := [.int .i64 0, .int .i64 0, .slice none 0 0]))
 have IO : Hid ((Tryz.prog.info? 29).map (·.size) = some (#[.int .i64 0, .int .i64 0, .slice none 0 0] : Array Value).size) := hid (by kernel_rfl)
 have OO : Hid ((#[.int .i64 0, .int .i64 0, .slice none 0 0] : Array Value).all (·.oneCell') = true) := hid (by kernel_rfl)
 clear A
 go_enter Tryz.func110, Tryz.ntmps110
 go_wp2_with (refine wpList_store_row rfl 29 _ _ rfl w.heap.size #[.int .i64 0, .int .i64 0, .slice none 0 0] rfl rfl 29 _ HBg.out IO.out rfl OO.out ?_)
 exact ret_rs1 rfl rfl (K6.out.blk List.mem_cons_self) rfl rfl ⟨rfl, K6.out.tail⟩
def dR (l : Ws) (k : Nat) (x : Int) : RR := if x ≠ 0 then .bad 0 else readR (l.drop k)
theorem rres_doc {R g c : Nat} {l : Ws} {k : Nat} {x : Int} {cs : List Comp} {w : World} (hk : k ≤ l.length) (hl16 : l.length * 16 ≤ 140737488355328) (hs : ∀ y ∈ l, y.length ≤ 140737488355328) (hS : ∀ W, All cs W → Rt W (.slice (some ⟨g, 0, none⟩) l.length c) l) (A : All (rdB R (.slice (some ⟨g, 0, none⟩) l.length c) k x :: cs) w) :
   Calls Tryz.prog 110 #[.pointer (some ⟨R, 0, none⟩)] w fun e w' => ∃ va vc, e = .returned (.agg #[.int .i64 (dR l k x).c, .int .i64 (dR l k x).n, .slice va (dR l k x).items.length vc]) ∧ All (ownC 9 (.slice va (dR l k x).items.length vc) (txW (dR l k x).items) :: rdB R (.slice (some ⟨g, 0, none⟩) l.length c) (k + (dR l k x).k) (flE x (dR l k x).e) :: cs) w' := by
 by_cases hx : x = 0
 · subst hx
   have : dR l k 0 = readR (l.drop k) := by unfold dR; rw [if_neg (by simp)]
   rw [this]
   exact rres0 hk hl16 hs hS A
 · have : dR l k x = .bad 0 := by unfold dR; rw [if_pos hx]
   rw [this]
   have e1 : flE x (RR.bad 0).e = x := by unfold flE; rw [if_neg hx]
   rw [e1]
   refine (rres_no hx A).mono fun e w' h => ⟨none, 0, h.1, All.addNil h.2⟩
set_option linter.unusedVariables false
def rowC (e : TypeId) (size : Nat) (v : Value) (n : Nat) (vs : List Value) : Comp := ⟨fun w => w.ownsRow 0 e size v n vs, v.ownBlock.toList⟩
theorem owns_keep {w w' : World} {e : TypeId} {size n : Nat} {v : Value} {vs : List Value} (h : w.ownsRow 0 e size v n vs) (hb : ∀ k ∈ v.ownBlock.toList, w'.heap[k]? = w.heap[k]?) : w'.ownsRow 0 e size v n vs :=
 ⟨h.1, by
   rcases h.2 with hn | ⟨g, cap, cur, rfl, hg, hgg, rest⟩
   · exact Or.inl hn
   · exact Or.inr ⟨g, cap, cur, rfl, hg, by rw [hb g (by simp [Value.ownBlock])]; exact hgg, rest⟩⟩
theorem rowC_good (e : TypeId) (size : Nat) (v : Value) (n : Nat) (vs : List Value) : (rowC e size v n vs).Good := fun w w' h hs hb => owns_keep h hb
theorem All.addRow0 {e : TypeId} {size : Nat} {cs : List Comp} {w : World} (h : All cs w) : All (rowC e size (.slice none 0 0) 0 [] :: cs) w :=
 ⟨⟨rowC_good _ _ _ _ _, ⟨by simp, Or.inl ⟨rfl, rfl⟩⟩, fun k hk => by simp [rowC, Value.ownBlock] at hk⟩, fun d hd k hk => by simp [rowC, Value.ownBlock] at hk, h⟩
theorem All.rowGrow {e : TypeId} {size n n' : Nat} {v v' : Value} {vs vs' : List Value} {cs : List Comp} {w w1 : World} {base : Nat} (h : All (rowC e size v n vs :: cs) w) (hown : w1.ownsRow base e size v' n' vs') (hg : w.grownBy w1 v.ownBlock) (hat : v'.ownBlock = v.ownBlock ∨ v'.ownBlock = some w.heap.size) : All (rowC e size v' n' vs' :: cs) w1 := by
 have ho' := owns_zero hown
 refine h.turn ((grown_fr hg).mono (fun k hk => by simpa [rowC] using hk)) (rowC_good _ _ _ _ _) ho' (fun k hk => ?_) (fun k hk => ?_)
 · have hk' : v'.ownBlock = some k := by simpa [rowC] using hk
   rcases hat with e1 | e1
   · exact Or.inl (by simp [rowC, ← e1, hk'])
   · rw [e1] at hk'; simp at hk'; exact Or.inr (by omega)
 · have hk' : v'.ownBlock = some k := by simpa [rowC] using hk
   exact (ho'.lt k hk').2
theorem appN {W : World} {e t : TypeId} {i : TypeInfo} {z v : Value} {size bytes n m c : Nat} {us news : List Value} {cs : List Comp} (hu : Tryz.prog.underlying t = some (.slice e)) (hi : Tryz.prog.info? e = some i) (hz : i.zero = some z) (hsize : i.size = size) (hby : i.bytes = bytes) (hzs : z.cells.size = size) (hsz : 0 < size)
   (A : All (rowC e size v n us :: cs) W) (ao2 : Option Addr) (hl : news.length = m * size) (hnews : 0 < m → ∃ a, ao2 = some a ∧ ∀ j u, news[j]? = some u → W.cell? (a.add j) = some u) (h1 : ∀ u ∈ news, u.oneCell' = true) (h63 : n + m ≤ maxLen) (hb : (n + m) * bytes ≤ 140737488355328) :
   ∃ ao cap w', (Builtin.append_ #[t, t] t #[v, .slice ao2 m c]).run Tryz.prog W = .ok (.slice ao (n + m) cap) w' ∧ All (rowC e size (.slice ao (n + m) cap) (n + m) (us ++ news) :: cs) w' := by
 have hown : W.ownsRow 0 e size v n us := A.1.2.1
 by_cases hm : 0 < m
 · obtain ⟨a, rfl, hc⟩ := hnews hm
   obtain ⟨v', w', hr, h2, h3, h4, h5⟩ := run_append_own_at (P := Tryz.prog) W 0 t t e i z size bytes hu hi hz hsize hby hzs hsz v n us hown a m c news hl hc h1 h63 hb (by omega)
   obtain ⟨ao, cap, rfl⟩ := owns_form h2
   exact ⟨ao, cap, w', hr, A.rowGrow (base := 0) h2 h3 h5⟩
 · have hm0 : m = 0 := by omega
   subst hm0
   have hn0 : news = [] := List.length_eq_zero_iff.1 (by omega)
   subst hn0
   subst hsize
   rw [List.append_nil]
   rcases hown.2 with ⟨rfl, rfl⟩ | ⟨g, cap, cur, rfl, _, _, hle, _⟩
   · exact ⟨none, 0, W, run_append_nothing W t t t e i hu hi none 0 0 (Nat.le_refl _) _ (srcNil hu ao2 c), A⟩
   · exact ⟨_, cap, W, run_append_nothing W t t t e i hu hi _ n cap hle _ (srcNil hu ao2 c), A⟩
theorem All.addRowE {cs : List Comp} {w : World} (h : All cs w) (e : TypeId) (size : Nat) : All (rowC e size (.slice (some ⟨w.heap.size, 0, none⟩) 0 0) 0 [] :: cs) (w.alloc (.cells #[] e)) := by
 refine h.add (Fr.below (ba w _)) (rowC_good _ _ _ _ _) ?_ (fun k hk => ?_)
 · exact ⟨by simp, Or.inr ⟨w.heap.size, 0, #[], rfl, Nat.zero_le _, heap_alloc_new w _, Nat.le_refl _, by unfold maxLen; omega, by simp, by simp⟩⟩
 · have : k = w.heap.size := by simpa [rowC, Value.ownBlock, eq_comm] using hk
   subst this
   exact ⟨Nat.le_refl _, by simp⟩
theorem row_at {w : World} {base : Nat} {e : TypeId} {size : Nat} {ao : Option Addr} {n c n' : Nat} {us : List Value} (h : w.ownsRow base e size (.slice ao n' c) n us) {k : Nat} {u : Value} (hu : us[k]? = some u) : ∃ g, ao = some ⟨g, 0, none⟩ ∧ g < w.heap.size ∧ w.cell? ⟨g, k, none⟩ = some u := by
 have hk := (List.getElem?_eq_some_iff.1 hu).1
 have hl := h.1
 rcases h.2 with ⟨e, e2⟩ | ⟨g, cap, cur, e, _, hg, hn, hm, hcs, ht⟩
 · subst e2; omega
 · simp only [Value.slice.injEq] at e
   refine ⟨g, e.1, (Array.getElem?_eq_some_iff.1 hg).1, ?_⟩
   rw [cell_at hg, ← Array.getElem?_toList]
   rw [← ht, List.getElem?_take, if_pos (by omega)] at hu
   exact hu
end Go.Proofs.YtfeppannfcbakaaGreatDoor

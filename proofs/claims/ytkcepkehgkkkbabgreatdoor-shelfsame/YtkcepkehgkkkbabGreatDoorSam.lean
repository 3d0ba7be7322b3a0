import Derived.Test.YtkcepkehgkkkbabGreatDoorJ47
namespace Go.Proofs.YtkcepkehgkkkbabGreatDoor
open Go.RowKit
set_option linter.unusedVariables false

/-- Two shelves that have done the same. -/
def SRel (w : World) (P Q i : Nat) (wr : World) : Prop := ∃ S T : St, OkS i S ∧ OkS i T ∧ EqS S T ∧ All (shL P S ++ (shL Q T ++ [inC w])) wr
/-- And one that was made of the first one's slots. -/
def SRel3 (w : World) (P P2 Q i : Nat) (wr : World) : Prop := ∃ S L T : St, OkS i S ∧ OkS i L ∧ OkS i T ∧ EqS S L ∧ EqS S T ∧ All (shL P S ++ (shL P2 L ++ (shL Q T ++ [inC w]))) wr
theorem tidyR {Q : Nat} {T : St} {X cs : List Comp} {w : World} (h : All (X ++ (shL Q T ++ cs)) w) (i : Nat) (q : Qs) (hq : T[i]? = some (some q)) : Maps.Tidy q.D := tidy_of (h.perm rot2) i q hq
theorem permS {x o : Comp} {A B C : List Comp} : (x :: (A ++ (o :: (B ++ C)))).Perm (B ++ (x :: o :: (A ++ C))) := by
  have p1 : (x :: (A ++ (o :: (B ++ C)))).Perm (x :: o :: (A ++ (B ++ C))) := List.Perm.cons _ List.perm_middle
  have p2 : (x :: o :: (A ++ (B ++ C))).Perm ([x, o] ++ (B ++ (A ++ C))) := (rot2.cons _).cons _
  exact (p1.trans p2).trans rot2
theorem permS2 {x2 o2 x1 o1 : Comp} {A B C I : List Comp} : (x2 :: (A ++ (o2 :: x1 :: o1 :: (B ++ (C ++ I))))).Perm (C ++ (x2 :: o2 :: x1 :: o1 :: (A ++ (B ++ I)))) := by
  have p1 : (x2 :: (A ++ ([o2, x1, o1] ++ (B ++ (C ++ I))))).Perm (x2 :: ([o2, x1, o1] ++ (A ++ (B ++ (C ++ I))))) := List.Perm.cons _ rot2
  have p2 : (A ++ (B ++ (C ++ I))).Perm (C ++ (A ++ (B ++ I))) := (List.Perm.append_left A rot2).trans rot2
  have p3 : (x2 :: ([o2, x1, o1] ++ (A ++ (B ++ (C ++ I))))).Perm ([x2, o2, x1, o1] ++ (C ++ (A ++ (B ++ I)))) := (((p2.cons _).cons _).cons _).cons _
  exact (p1.trans p3).trans rot2
theorem permS3 {A B C I : List Comp} : (C ++ (A ++ (B ++ I))).Perm (B ++ (A ++ (C ++ I))) := ((List.Perm.append_left C rot2).trans rot2).trans (List.Perm.append_left B rot2)
theorem dropF {a b : List Comp} {w : World} (h : All (a ++ b) w) : All b w := h.sublist (List.sublist_append_right _ _)
theorem takeF {a b : List Comp} {w : World} (h : All (a ++ b) w) : All a w := h.sublist (List.sublist_append_left _ _)
theorem slB_small {N P : Nat} {S : St} (hS : OkS N S) {cs : List Comp} {w : World} (h : All (shL P S ++ cs) w) : ∀ x ∈ S.map slB, x.length ≤ 140737488355328 := by
  intro x hx
  obtain ⟨s, hs, rfl⟩ := List.mem_map.1 hx
  obtain ⟨i, hi⟩ := List.getElem?_of_mem hs
  cases s with
  | none => simp [slB]
  | some q =>
    have := slot_small ((hS.each i q hi).qok ((h.shOut hi).tail.tail.1.2.1))
    show (slotB q.nm q.first q.items (grS q.D)).length ≤ _
    omega
theorem toldL_small {N P : Nat} {S : St} (hS : OkS N S) {cs : List Comp} {w : World} (h : All (shL P S ++ cs) w) : (toldL S).length ≤ 1000 ∧ ∀ x ∈ toldL S, x.items.length ≤ 1000 ∧ x.gs.length ≤ 1000 := by
  constructor
  · unfold toldL
    rw [List.length_map, nmsS_len]
    have := nms_len (stV S)
    rw [stV_len, hS.len] at this
    omega
  · intro x hx
    obtain ⟨nm, hn, rfl⟩ := List.mem_map.1 hx
    obtain ⟨i, q, hq, _, hf⟩ := mem_nmsS hS hn
    rw [tqN_at hf hq]
    have h1 := (hS.each i q hq).len
    have h2 := (hS.each i q hq).gs
    have h3 := grS_len ((h.shOut hq).tail.tail.1.2.1)
    exact ⟨by show q.items.length ≤ 1000; omega, by show (grS q.D).length ≤ 1000; omega⟩
theorem permT {X Y Z W : List Comp} : (X ++ (Y ++ (Z ++ W))).Perm (Z ++ (X ++ (Y ++ W))) := (List.Perm.append_left X rot2).trans rot2

set_option maxHeartbeats 6400000 in
set_option maxRecDepth 1000000 in
theorem same_any {w : World} (hT : Tab w) {s1 s2 : Value} {l1 l2 : List Ov} (h1 : OpsAt w s1 l1) (hl1 : l1.length ≤ 4398046511104) (h2 : OpsAt w s2 l2) (hl2 : l2.length ≤ 4398046511104) :
    Calls Tryz.prog 4 #[s1, s2] w fun e w' => e = .returned (.bool true) ∧ Below w.heap.size w w' := by
  obtain ⟨ao1, cp1, rfl⟩ := h1.form
  obtain ⟨ao2, cp2, rfl⟩ := h2.form
  have HT := hid hT
  have HO1 := hid h1
  have HO2 := hid h2
  clear h1 h2 hT
  generalize hn1 : l1.length = n1 at *
  generalize hn2 : l2.length = n2 at *
  have HN1 := hid hn1
  have HN2 := hid hn2
  clear hn1 hn2
  go_enter Tryz.func4, Tryz.ntmps4
  go_wp2_with fail
  refine (shown_any HT.out).mono ?_
  rintro e w1 ⟨rfl, B1⟩
  have A := hid ((All.came w).later B1)
  clear B1
  go_wp2_with fail
  refine (New_any A.out).mono ?_
  rintro e w2 ⟨P, rfl, A2, _, _⟩
  have A2 : Hid (All (shL P S0 ++ [inC w]) w2) := hid A2
  clear A
  go_wp2_with fail
  refine (New_any A2.out).mono ?_
  rintro e w3 ⟨Q, rfl, A3, _, _⟩
  have A0 := hid (show SRel w P Q 0 w3 from ⟨S0, S0, S0_ok, S0_ok, EqS.refl _, by
    have a : All (shL Q S0 ++ (shL P S0 ++ [inC w])) w3 := A3
    exact a.perm rot2⟩)
  clear A3 A2
  go_wp2
  go_loopw [7] (fun iv wr => ∃ (i : Nat), iv = .int .i64 (i : Int) ∧ i ≤ n1 ∧ Hid (SRel w P Q i wr)) (fun iv _ => n1 - (intOf iv).toNat)
  case atStart => exact ⟨0, rfl, by omega, A0⟩
  case round =>
    obtain ⟨i, rfl, hi, HR⟩ := hrel
    clear A0
    obtain ⟨S, T, hS, hT', hE, hA⟩ := HR.out
    have A := hid hA
    have HS := hid hS
    have HTw := hid hT'
    have HE := hid hE
    clear hA hS hT' hE HR
    by_cases hlt : i < n1
    · have l1' : decide ((i : Int) < (n1 : Int)) = true := decide_eq_true (by omega)
      have l2' : (i : Int) < (n1 : Int) := by omega
      have l3' : (0 : Int) ≤ (i : Int) := by omega
      have hil : i < l1.length := by rw [HN1.out]; exact hlt
      obtain ⟨g, o, ea, hg, F⟩ := HO1.out.at (A.out.into (by simp)) hil
      subst ea
      generalize hov : l1[i] = ov at F
      have HOV := hid hov
      clear hov
      have C1 := hid (Do_all HS.out (by omega) (fun w' h' => HT.out.below (h'.into (by simp))) ov A.out)
      obtain ⟨k, nm, tx, n, m⟩ := ov
      have c0 := F.c0
      have c1 := F.c1
      have c2 := F.c2
      have c3 := F.c3
      have c4 := F.c4
      simp only at c0 c1 c2 c3 c4
      clear F
      go_wp2_with fail
      refine C1.out.mono ?_
      rintro e w4 ⟨S', c, x, items, j, er, so, sc, rfl, hD, hOk, _, A4⟩
      have A4 : Hid (All (shL Q T ++ (shL P S' ++ [inC w])) w4) := hid (by
        have a : All (shL P S' ++ (shL Q T ++ [inC w])) w4 := A4.sublist (List.Sublist.append (List.Sublist.refl _) (List.sublist_cons_self _ _))
        exact a.perm rot2)
      have HD := hid hD
      have HOk := hid hOk
      have T1 := hid (tidy_of A.out)
      have T2 := hid (tidyR A.out)
      clear C1 hD hOk A c0 c1 c2 c3 c4
      obtain ⟨g', o', ea, hg', F⟩ := HO1.out.at (A4.out.into (by simp)) hil
      cases ea
      rw [HOV.out] at F
      have C2 := hid (Do_all HTw.out (by omega) (fun w' h' => HT.out.below (h'.into (by simp))) ⟨k, nm, tx, n, m⟩ A4.out)
      have c0 := F.c0
      have c1 := F.c1
      have c2 := F.c2
      have c3 := F.c3
      have c4 := F.c4
      simp only at c0 c1 c2 c3 c4
      clear F A4
      go_wp2_with fail
      refine C2.out.mono ?_
      rintro e w5 ⟨T', c', x', items', j', er', so', sc', rfl, hD', hOk', _, A5⟩
      have A5 : Hid (SRel w P Q (i + 1) w5) := hid ⟨S', T', HOk.out, hOk', (HD.out.alike (N := i) (N2 := i) HE.out T1.out T2.out hD').2.2.2.2.2, by
        have a : All (shL Q T' ++ (shL P S' ++ [inC w])) w5 := A5.sublist (List.Sublist.append (List.Sublist.refl _) (List.sublist_cons_self _ _))
        exact a.perm rot2⟩
      clear C2 hD' hOk' c0 c1 c2 c3 c4
      go_wp2
      go_roundw
      case rel => exact ⟨i + 1, by go_num, by omega, A5⟩
      case measure => simp [intOf]; omega
    · obtain rfl : i = n1 := by omega
      have l1' : decide ((i : Int) < (i : Int)) = false := decide_eq_false (by omega)
      go_wp2_with fail
      refine (slots_any HS.out A.out).mono ?_
      rintro e w4 ⟨ba, bc, ls, rfl, hls, A4⟩
      have C7 := hid (Load_ok HS.out hls A4)
      clear A hls A4
      go_wp2_with fail
      refine C7.out.mono ?_
      rintro e w5 ⟨P2, L, rfl, hEL, hOL, A5⟩
      have A0 : Hid (SRel3 w P P2 Q (i + 4 + 0) w5) := hid ⟨S, L, T, HS.out.upTo _ (by omega), hOL.upTo _ (by omega), HTw.out.upTo _ (by omega), hEL, HE.out, by
        have a : All (shL P2 L ++ (shL P S ++ (shL Q T ++ [inC w]))) w5 := A5.sublist (List.Sublist.append (List.Sublist.refl _) (List.sublist_append_right _ _))
        exact a.perm rot2⟩
      clear C7 hEL hOL A5 HS HTw HE
      go_wp2
      go_loopw [10] (fun jv wr => ∃ (j : Nat), jv = .int .i64 (j : Int) ∧ j ≤ n2 ∧ Hid (SRel3 w P P2 Q (i + 4 + j) wr)) (fun jv _ => n2 - (intOf jv).toNat)
      case atStart => exact ⟨0, rfl, by omega, A0⟩
      case round =>
        obtain ⟨j, rfl, hj, HR⟩ := hrel
        clear A0
        obtain ⟨S, L, T, hS, hL, hT', hEL, hET, hA⟩ := HR.out
        have A := hid hA
        have HS := hid hS
        have HL := hid hL
        have HTw := hid hT'
        have HEL := hid hEL
        have HET := hid hET
        clear hA hS hL hT' hEL hET HR
        by_cases hlt : j < n2
        · have l1' : decide ((j : Int) < (n2 : Int)) = true := decide_eq_true (by omega)
          have l2' : (j : Int) < (n2 : Int) := by omega
          have l3' : (0 : Int) ≤ (j : Int) := by omega
          have hil : j < l2.length := by rw [HN2.out]; exact hlt
          obtain ⟨g, o, ea, hg, F⟩ := HO2.out.at (A.out.into (by simp)) hil
          subst ea
          generalize hov : l2[j] = ov at F
          have HOV := hid hov
          clear hov
          have C1 := hid (Do_all HS.out (by omega) (fun w' h' => HT.out.below (h'.into (by simp))) ov A.out)
          have T1 := hid (tidy_of A.out)
          have T2 := hid (tidyR A.out)
          have T3 := hid (tidyR (A.out.perm (permS3 (A := shL P2 L) (B := shL P S) (C := shL Q T)).symm |>.perm rot2))
          obtain ⟨k, nm, tx, n, m⟩ := ov
          have c0 := F.c0
          have c1 := F.c1
          have c2 := F.c2
          have c3 := F.c3
          have c4 := F.c4
          simp only at c0 c1 c2 c3 c4
          clear F
          go_wp2_with fail
          refine C1.out.mono ?_
          rintro e w4 ⟨S', c, x, items, jj, er, so, sc, rfl, hD, hOk, hit, A4⟩
          have hit := hid hit
          generalize hlL : items.length = il at *
          have HIL := hid hlL
          clear hlL
          have A5 : Hid (All (shL P2 L ++ (blkC w4.heap.size [.int .i64 c, .int .i64 x, .slice so il sc] 59 :: ownC 9 (.slice so il sc) (txtV items) :: (shL P S' ++ (shL Q T ++ [inC w])))) (w4.alloc (.cells [Value.int .i64 c, .int .i64 x, .slice so il sc].toArray 59))) := hid ((A4.addBlk [.int .i64 c, .int .i64 x, .slice so il sc] 59).perm permS)
          have HD := hid hD
          have HOk := hid hOk
          clear C1 hD hOk A c0 c1 c2 c3 c4 A4
          go_upto_region 19 with fail
          have eW : w4.alloc (.cells #[.int .i64 c, .int .i64 x, .slice so il sc] 59) = w4.alloc (.cells [Value.int .i64 c, .int .i64 x, .slice so il sc].toArray 59) := rfl
          rw [eW]
          clear eW
          generalize hw5 : w4.alloc (.cells [Value.int .i64 c, .int .i64 x, .slice so il sc].toArray 59) = w5 at *
          generalize hX1 : w4.heap.size = X1 at *
          clear hw5 hX1
          obtain ⟨g', o', ea, hg', F⟩ := HO2.out.at (A5.out.into (by simp)) hil
          cases ea
          rw [HOV.out] at F
          have C2 := hid (Do_all HL.out (by omega) (fun w' h' => HT.out.below (h'.into (by simp))) ⟨k, nm, tx, n, m⟩ A5.out)
          have c0 := F.c0
          have c1 := F.c1
          have c2 := F.c2
          have c3 := F.c3
          have c4 := F.c4
          simp only at c0 c1 c2 c3 c4
          clear F
          clear A5
          go_wp2_with fail
          refine C2.out.mono ?_
          rintro e w6 ⟨L', c', x', items', j', er', so', sc', rfl, hD', hOk', _, A6⟩
          obtain ⟨rfl, rfl, rfl, rfl, rfl, hE1⟩ := HD.out.alike (N := i) (N2 := i) HEL.out T1.out T2.out hD'
          rw [HIL.out] at A6 ⊢
          have HE1 := hid hE1
          have HOk2 := hid hOk'
          have A7 : Hid (All (shL Q T ++ (blkC w6.heap.size [.int .i64 c', .int .i64 x', .slice so' il sc'] 59 :: ownC 9 (.slice so' il sc') (txtV items') :: blkC X1 [.int .i64 c', .int .i64 x', .slice so il sc] 59 :: ownC 9 (.slice so il sc) (txtV items') :: (shL P2 L' ++ (shL P S' ++ [inC w])))) (w6.alloc (.cells [Value.int .i64 c', .int .i64 x', .slice so' il sc'].toArray 59))) := hid ((A6.addBlk [.int .i64 c', .int .i64 x', .slice so' il sc'] 59).perm permS2)
          clear C2 hD' hOk' hE1 c0 c1 c2 c3 c4 A6
          go_upto_region 20 with fail
          have eW : w6.alloc (.cells #[.int .i64 c', .int .i64 x', .slice so' il sc'] 59) = w6.alloc (.cells [Value.int .i64 c', .int .i64 x', .slice so' il sc'].toArray 59) := rfl
          rw [eW]
          clear eW
          generalize hw7 : w6.alloc (.cells [Value.int .i64 c', .int .i64 x', .slice so' il sc'].toArray 59) = w7 at *
          generalize hX2 : w6.heap.size = X2 at *
          clear hw7 hX2
          obtain ⟨g', o', ea, hg', F⟩ := HO2.out.at (A7.out.into (by simp)) hil
          cases ea
          rw [HOV.out] at F
          have C3 := hid (Do_all HTw.out (by omega) (fun w' h' => HT.out.below (h'.into (by simp))) ⟨k, nm, tx, n, m⟩ A7.out)
          have c0 := F.c0
          have c1 := F.c1
          have c2 := F.c2
          have c3 := F.c3
          have c4 := F.c4
          simp only at c0 c1 c2 c3 c4
          clear F
          clear A7
          go_wp2_with fail
          refine C3.out.mono ?_
          rintro e w8 ⟨T', cr, xr, itr, jr, err, so2, sc2, rfl, hD', hOk', _, A8⟩
          obtain ⟨rfl, rfl, rfl, rfl, rfl, hE2⟩ := HD.out.alike (N := i) (N2 := i) HET.out T1.out T3.out hD'
          rw [HIL.out] at A8 ⊢
          have HE2 := hid hE2
          have HOk3 := hid hOk'
          have A9 := hid (A8.addBlk [.int .i64 cr, .int .i64 xr, .slice so2 il sc2] 59)
          clear C3 hD' hOk' hE2 c0 c1 c2 c3 c4 A8 HD T1 T2 T3
          go_upto_region 21 with fail
          have eW : w8.alloc (.cells #[.int .i64 cr, .int .i64 xr, .slice so2 il sc2] 59) = w8.alloc (.cells [Value.int .i64 cr, .int .i64 xr, .slice so2 il sc2].toArray 59) := rfl
          rw [eW]
          clear eW
          generalize hw9 : w8.alloc (.cells [Value.int .i64 cr, .int .i64 xr, .slice so2 il sc2].toArray 59) = w9 at *
          generalize hX3 : w8.heap.size = X3 at *
          clear hw9 hX3
          have e1 : (err != err) = false := by simp
          have e2 : (jr != jr) = false := by simp
          have b1 := A9.out.blk (g := X1) (vs := [.int .i64 cr, .int .i64 xr, .slice so il sc]) (t := 59) (by simp)
          have b2 := A9.out.blk (g := X2) (vs := [.int .i64 cr, .int .i64 xr, .slice so' il sc']) (t := 59) (by simp)
          have t1 := txts_of (e := 9) A9.out (ao := so) (n := il) (c := sc) (l := itr) (by simp)
          have t2 := txts_of (e := 9) A9.out (ao := so') (n := il) (c := sc') (l := itr) (by simp)
          have C4 := hid (sameResult_true cr xr t1 t2 (by have := hit.out; rw [HIL.out]; omega))
          have d0 : w9.cell? ⟨X1, 0, none⟩ = some (.int .i64 cr) := by rw [cell_at b1]; rfl
          have d1 : w9.cell? ⟨X1, 1, none⟩ = some (.int .i64 xr) := by rw [cell_at b1]; rfl
          have d2 : w9.cell? ⟨X1, 2, none⟩ = some (.slice so il sc) := by rw [cell_at b1]; rfl
          have f0 : w9.cell? ⟨X2, 0, none⟩ = some (.int .i64 cr) := by rw [cell_at b2]; rfl
          have f1 : w9.cell? ⟨X2, 1, none⟩ = some (.int .i64 xr) := by rw [cell_at b2]; rfl
          have f2 : w9.cell? ⟨X2, 2, none⟩ = some (.slice so' il sc') := by rw [cell_at b2]; rfl
          clear b1 b2 t1 t2
          go_wp2_with fail
          refine C4.out.mono ?_
          rintro e w10 ⟨rfl, B10⟩
          have A10 := hid (A9.out.later B10)
          clear A9 B10 C4 d0 d1 d2 f0 f1 f2
          have b1 := A10.out.blk (g := X1) (vs := [.int .i64 cr, .int .i64 xr, .slice so il sc]) (t := 59) (by simp)
          have b2 := A10.out.blk (g := X3) (vs := [.int .i64 cr, .int .i64 xr, .slice so2 il sc2]) (t := 59) (by simp)
          have t1 := txts_of (e := 9) A10.out (ao := so) (n := il) (c := sc) (l := itr) (by simp)
          have t2 := txts_of (e := 9) A10.out (ao := so2) (n := il) (c := sc2) (l := itr) (by simp)
          have C5 := hid (sameResult_true cr xr t1 t2 (by have := hit.out; rw [HIL.out]; omega))
          have d0 : w10.cell? ⟨X1, 0, none⟩ = some (.int .i64 cr) := by rw [cell_at b1]; rfl
          have d1 : w10.cell? ⟨X1, 1, none⟩ = some (.int .i64 xr) := by rw [cell_at b1]; rfl
          have d2 : w10.cell? ⟨X1, 2, none⟩ = some (.slice so il sc) := by rw [cell_at b1]; rfl
          have f0 : w10.cell? ⟨X3, 0, none⟩ = some (.int .i64 cr) := by rw [cell_at b2]; rfl
          have f1 : w10.cell? ⟨X3, 1, none⟩ = some (.int .i64 xr) := by rw [cell_at b2]; rfl
          have f2 : w10.cell? ⟨X3, 2, none⟩ = some (.slice so2 il sc2) := by rw [cell_at b2]; rfl
          clear b1 b2 t1 t2
          go_wp2_with fail
          refine C5.out.mono ?_
          rintro e w11 ⟨rfl, B11⟩
          have A11 : Hid (SRel3 w P P2 Q (i + 4 + (j + 1)) w11) := hid ⟨S', L', T', HOk.out, HOk2.out, HOk3.out, HE1.out, HE2.out, by
            have a := (A10.out.later B11).tail
            have a2 : All (shL Q T' ++ (shL P2 L' ++ (shL P S' ++ [inC w]))) w11 := a.sublist (List.Sublist.append (List.Sublist.refl _) (((((List.Sublist.refl _).cons _).cons _).cons _).cons _ |>.cons _))
            exact a2.perm permS3⟩
          clear A10 B11 C5 d0 d1 d2 f0 f1 f2
          go_wp2
          go_roundw
          case rel => exact ⟨j + 1, by go_num, by omega, A11⟩
          case measure => simp [intOf]; omega
        · obtain rfl : j = n2 := by omega
          have l1' : decide ((j : Int) < (j : Int)) = false := decide_eq_false (by omega)
          have HB := hid (slB_small HS.out A.out)
          have HTS := hid (toldL_small HS.out A.out)
          have EL : Hid (L.map slB = S.map slB) := hid (slB_alike HS.out HL.out HEL.out A.out (A.out.perm rot2))
          have ET : Hid (T.map slB = S.map slB) := hid (slB_alike HS.out HTw.out HET.out A.out (A.out.perm permT))
          have EQ : Hid (toldL L = toldL S) := hid (toldL_alike HS.out HL.out HEL.out A.out (A.out.perm rot2))
          have h8 : (S.map slB).length ≤ 8 := by rw [List.length_map, HS.out.len]; exact Nat.le_refl _
          go_wp2_with fail
          refine (slots_any HS.out A.out).mono ?_
          rintro e w4 ⟨ba, bc, ls, rfl, hls, A4⟩
          have A5 : Hid (All (shL P2 L ++ (slsL (.slice ba 8 bc) ls ++ (shL P S ++ (shL Q T ++ [inC w])))) w4) := hid (A4.perm permT)
          have HLS := hid hls
          clear A4 A hls
          go_wp2_with fail
          refine (slots_any HL.out A5.out).mono ?_
          rintro e w5 ⟨da, dc, ls2, rfl, hls2, A6⟩
          have R2 := hid (readsL_of A6)
          rw [hls2, EL.out] at R2
          have R1 := hid (readsL_of (dropF (dropF A6)))
          rw [HLS.out] at R1
          have A7 : Hid (All (shL P S ++ (shL P2 L ++ (shL Q T ++ [inC w]))) w5) := hid (by
            have a : All (shL P2 L ++ (shL P S ++ (shL Q T ++ [inC w]))) w5 := (dropF A6).sublist (List.Sublist.append (List.Sublist.refl _) (List.sublist_append_right _ _))
            exact a.perm rot2)
          clear A6 A5 hls2 HLS
          go_wp2_with fail
          refine (sameSlots_true R1.out R2.out HB.out h8).mono ?_
          rintro e w6 ⟨rfl, B6⟩
          have A := hid (A7.out.later B6)
          clear A7 B6 R1 R2
          go_wp2_with fail
          refine (slots_any HS.out A.out).mono ?_
          rintro e w7 ⟨ba3, bc3, ls3, rfl, hls3, A8⟩
          have A9 : Hid (All (shL Q T ++ (slsL (.slice ba3 8 bc3) ls3 ++ (shL P S ++ (shL P2 L ++ [inC w])))) w7) := hid (A8.perm ((List.Perm.append_left _ permT).trans rot2))
          have HLS := hid hls3
          clear A8 A hls3
          go_wp2_with fail
          refine (slots_any HTw.out A9.out).mono ?_
          rintro e w8 ⟨da4, dc4, ls4, rfl, hls4, A10⟩
          have R2 := hid (readsL_of A10)
          rw [hls4, ET.out] at R2
          have R1 := hid (readsL_of (dropF (dropF A10)))
          rw [HLS.out] at R1
          have A11 : Hid (All (shL P S ++ (shL P2 L ++ [inC w])) w8) := hid (dropF (dropF (dropF A10)))
          clear A10 A9 hls4 HLS
          go_wp2_with fail
          refine (sameSlots_true R1.out R2.out HB.out h8).mono ?_
          rintro e w9 ⟨rfl, B9⟩
          have A := hid (A11.out.later B9)
          clear A11 B9 R1 R2
          go_wp2_with fail
          refine (Queues_st HS.out A.out).mono ?_
          rintro e w10 ⟨qa, qc, X1, rfl, A12, hX1⟩
          have A13 : Hid (All (shL P2 L ++ (X1 ++ (shL P S ++ [inC w]))) w10) := hid (A12.perm permT)
          have HX1 := hid hX1
          clear A12 hX1 A
          go_wp2_with fail
          refine (Queues_st HL.out A13.out).mono ?_
          rintro e w11 ⟨qa2, qc2, X2, rfl, A14, hX2⟩
          rw [EQ.out] at hX2 ⊢
          have C13 := hid (sameQueues_q (HX1.out w11 (takeF (dropF (dropF A14)))) (hX2 w11 (takeF A14)) HTS.out.1 HTS.out.2)
          have B11 := hid (A14.into (w0 := w) (by simp))
          clear A13 A14 hX2 HX1
          go_wp2_with fail
          refine C13.out.mono ?_
          rintro e w12 ⟨rfl, nq, hw12⟩
          have B12 : Hid (Below w.heap.size w w12) := hid (by rw [hw12]; exact B11.out.trans ((bdN w11 nq).mono B11.out.size))
          clear hw12 C13
          go_wp2
          go_ret
          exact ⟨rfl, B12.out⟩
end Go.Proofs.YtkcepkehgkkkbabGreatDoor

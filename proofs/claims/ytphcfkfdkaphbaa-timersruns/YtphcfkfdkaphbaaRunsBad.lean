import Derived.Test.YtphcfkfdkaphbaaRunsGood
namespace Go.Proofs.Ytphcfkfdkaphbaa
open Go.RowKit Go.Sort
set_option linter.unusedVariables false
set_option maxHeartbeats 25600000 in
set_option maxRecDepth 1000000 in
theorem runs_bad {w : World} {v : Value} {xs : List Ac} {nm : List UInt8} {t : Int} (hnm : (⟨nm.toArray⟩ : ByteArray).size ≤ maxLen) (ht : t < 1 ∨ 1024 < t) (hs : ActsAt w v xs) (hx : ∀ x ∈ xs, x.name.size ≤ maxLen) : Calls Try.prog 5 #[.string ⟨nm.toArray⟩, .int .i64 t, v] w fun e w' => e = .returned (.bool true) ∧ Below w.heap.size w w' := by
  obtain ⟨so, sc, rfl⟩ := hs.form
  have HS := hid hs
  have HX := hid hx
  have hxl : xs.length ≤ maxLen := hs.len
  unfold maxLen at hxl
  have HK := hid (show WideAt.IsKeyLit (Lit.string nm) from by have := lawS.key (key_of ⟨nm.toArray⟩ hnm); simpa using this)
  clear hs hx
  rcases ht with ht | ht
  · go_enter Try.func5, Try.ntmps5
    go_wp2_with fail
    refine (NewS (All.came w)).mono ?_
    rintro e w1 ⟨P, b, rfl, hA1⟩
    have A1 := hid hA1
    clear hA1
    go_wp2_with fail
    refine (ArmS_ticks A1.out ⟨nm.toArray⟩ (Or.inl ht)).mono ?_
    rintro e w2 ⟨rfl, rfl⟩
    have A2 := hid A1.out
    have R2 := hid (show RunSt false t 1 (.map [] : DataW Unit) (Lit.string nm) from ⟨rfl, fun h => by cases h⟩)
    clear A1
    go_wp2
    go_loopw [9] (fun iv wr => ∃ (i n : Nat) (D : DataW Unit), iv = .int .i64 (i : Int) ∧ (1 ≤ i ∧ i ≤ 1026) ∧ n ≤ i ∧ Hid (RunSt false t i D (Lit.string nm)) ∧ Hid (All [tabS P b n D, inC w] wr)) (fun iv _ => 1026 - (intOf iv).toNat)
    case atStart => exact ⟨1, 0, _, rfl, by omega, by omega, R2, A2⟩
    case round =>
      obtain ⟨i, n, D, rfl, ⟨hi0, hi1025⟩, hni, RR, RA⟩ := hrel
      clear R2 A2
      by_cases hlt : i ≤ 1025
      · skip
        by_cases hlen : i ≤ xs.length
        · obtain ⟨x, hx⟩ : ∃ x, xs[i - 1]? = some x := ⟨_, List.getElem?_eq_getElem (by omega)⟩
          obtain ⟨sb, sof, hso, x0, x1, x2, x3, x4⟩ := HS.out.at (RA.out.into (w0 := w) (by simp)) hx
          subst hso
          have hxn := HX.out x (List.mem_of_getElem? hx)
          obtain ⟨kd, at_, nmx, nu, tk⟩ := x
          simp only at x0 x1 x2 x3 x4 hxn
          obtain ⟨nl, hnl⟩ : ∃ nl : List UInt8, nmx = ⟨nl.toArray⟩ := ⟨nmx.data.toList, by simp⟩
          subst hnl
          have hi1 : ((i : Int) - 1) = ((i - 1 : Nat) : Int) := by omega
          clear hx
          by_cases heq : nl = nm
          · have heq' := heq.symm
            subst heq'
            clear x0 x1 x3 x4 hxn
            obtain ⟨n', hn'⟩ : ∃ n', n' = n := ⟨n, rfl⟩
            subst hn'
            obtain ⟨D', hD'⟩ : ∃ D', D' = D := ⟨D, rfl⟩
            subst hD'
            have hnn : n' ≤ i + 1 := by omega
            have AR := hid RA.out
            have RS := hid RR.out
            clear RA RR
            have hLeft := LeftS AR.out ⟨nm.toArray⟩ hnm
            simp only at hLeft
            rw [RS.out.has] at hLeft
            simp only [Bool.false_and] at hLeft
            generalize leftD _ _ = ll at hLeft
            have HL := hid hLeft
            clear hLeft
            go_wp2_with fail
            refine HL.out.mono ?_
            rintro e w5 ⟨rfl, rfl⟩
            clear HL
            go_wp2_with fail
            refine (TickS AR.out (by omega)).mono ?_
            rintro e w6 ⟨v6, ss, D6, rfl, hT, hA6⟩
            have hssl : ss.length ≤ 1048576 := by
              have h1 := hT.size
              have h2 := AR.out.1.2.1.2.size_le
              simp at h1
              omega
            obtain ⟨NX, hmem⟩ := RS.out.tick hT
            have hcount := told_count (nm := nm) hT
            clear hT
            have hLl : (ss.mergeSort fun x y => decide (x ≤ y)).length ≤ 1048576 := by simpa using hssl
            generalize (ss.mergeSort fun x y => decide (x ≤ y)) = L at *
            have A6 := hid hA6
            obtain ⟨oa, oc, hoe⟩ := owns_form (hA6.1.2.1 : w6.ownsRow 0 9 1 v6 (L.map encStr).length (L.map encStr))
            rw [List.length_map] at hoe
            subst hoe
            clear hA6
            have NX := hid NX
            have HM := hid hmem
            have HCN := hid hcount
            clear hmem hcount
            go_wp2
            go_loopw [14, 100] (fun tv kv wr => ∃ k : Nat, k ≤ L.length ∧ kv = .int .i64 (k : Int) ∧ tv = .int .i64 (((L.take k).count nm : Nat) : Int) ∧ wr = w6) (fun _ kv _ => L.length - (intOf kv).toNat)
            case atStart => exact ⟨0, by omega, rfl, by simp, rfl⟩
            case round =>
              obtain ⟨k, hk, rfl, rfl, rfl⟩ := hrel
              by_cases hkl : k < L.length
              · obtain ⟨x, hx⟩ : ∃ x, L[k]? = some x := ⟨_, List.getElem?_eq_getElem hkl⟩
                obtain ⟨go, hgo, hcx, _⟩ := owns_at (k := k) (u := encStr x) (A6.out.1.2.1) (by rw [List.getElem?_map, hx]; rfl)
                subst hgo
                have hct := count_take hx nm
                have hcl : (L.take k).count nm ≤ 1048576 := Nat.le_trans List.count_le_length (by simp; omega)
                by_cases hxe : x = nm
                · have hxe' := hxe.symm
                  subst hxe'
                  rw [if_pos (by simp)] at hct
                  have HCT := hid hct
                  clear hct hx
                  go_wp2
                  go_roundw
                  case rel => exact ⟨k + 1, by omega, by go_num, by rw [HCT.out]; go_num, by first | rfl | trivial⟩
                  case measure => simp [intOf]; omega
                · rw [if_neg (by simpa using hxe)] at hct
                  have HCT := hid hct
                  have hne : ¬ (⟨x.toArray⟩ : ByteArray) = ⟨nm.toArray⟩ := fun e => hxe (by simpa using e)
                  have hb1 : (x == nm) = false := by simpa using hxe
                  have hb2 : decide (x = nm) = false := decide_eq_false hxe
                  clear hct hx
                  go_wp2
                  go_roundw
                  case rel => exact ⟨k + 1, by omega, by go_num, by rw [HCT.out]; simp, by first | rfl | trivial⟩
                  case measure => simp [intOf]; omega
              · have hLn : (L.take k).count nm = 0 := by
                  rw [List.take_of_length_le (by omega), HCN.out]
                  exact if_neg (fun e => by have := (HM.out.1 (List.mem_map.2 ⟨nm, e, rfl⟩)).1; cases this)
                rw [hLn]
                clear hLn
                go_wp2
                go_roundw
                case rel => exact ⟨i + 1, n', D6, by go_num, by omega, by omega, NX, hid A6.out.tail⟩
                case measure => simp [intOf]; omega
          · have hkne : Lit.string nm ≠ Lit.string (⟨nl.toArray⟩ : ByteArray).data.toList := fun e => heq (by
              injection e with e
              simpa using e.symm)
            have hb3 : (nl == nm) = false := by simpa using heq
            have hb4 : decide (nl = nm) = false := decide_eq_false heq
            have HKN := hid hkne
            have PA := hid (RA.out.addBlk (Ac.cells ⟨kd, at_, ⟨nl.toArray⟩, nu, tk⟩) 40)
            obtain ⟨cx0, _⟩ := blk_cell PA.out (g := wr.heap.size) (t := 40) (j := 0) (by simp) (rfl : (Ac.cells ⟨kd, at_, ⟨nl.toArray⟩, nu, tk⟩)[0]? = some (.int .i64 kd))
            obtain ⟨cx2, _⟩ := blk_cell PA.out (g := wr.heap.size) (t := 40) (j := 2) (by simp) (rfl : (Ac.cells ⟨kd, at_, ⟨nl.toArray⟩, nu, tk⟩)[2]? = some (.string ⟨nl.toArray⟩))
            obtain ⟨cx4, _⟩ := blk_cell PA.out (g := wr.heap.size) (t := 40) (j := 4) (by simp) (rfl : (Ac.cells ⟨kd, at_, ⟨nl.toArray⟩, nu, tk⟩)[4]? = some (.int .i64 tk))
            simp only [Ac.cells] at cx0 cx2 cx4 PA
            clear hkne
            by_cases hmod : kd.tmod 2 = 0
            · go_wp2_with fail
              refine (Arm_other PA.out.swap ⟨nl.toArray⟩ hxn tk (by omega) HKN.out).mono ?_
              rintro e w4 ⟨v4, n', D', rfl, hn', h1', h2', hA4⟩
              have AR := hid hA4.dropMid
              have RS := hid (RR.out.same h1' h2')
              have hnn : n' ≤ i + 1 := by omega
              clear h1' h2' hA4 RA RR hn' cx0 cx2 cx4
              have hLeft := LeftS AR.out ⟨nm.toArray⟩ hnm
              simp only at hLeft
              rw [RS.out.has] at hLeft
              simp only [Bool.false_and] at hLeft
              generalize leftD _ _ = ll at hLeft
              have HL := hid hLeft
              clear hLeft
              go_wp2_with fail
              refine HL.out.mono ?_
              rintro e w5 ⟨rfl, rfl⟩
              clear HL
              go_wp2_with fail
              refine (TickS AR.out (by omega)).mono ?_
              rintro e w6 ⟨v6, ss, D6, rfl, hT, hA6⟩
              have hssl : ss.length ≤ 1048576 := by
                have h1 := hT.size
                have h2 := AR.out.1.2.1.2.size_le
                simp at h1
                omega
              obtain ⟨NX, hmem⟩ := RS.out.tick hT
              have hcount := told_count (nm := nm) hT
              clear hT
              have hLl : (ss.mergeSort fun x y => decide (x ≤ y)).length ≤ 1048576 := by simpa using hssl
              generalize (ss.mergeSort fun x y => decide (x ≤ y)) = L at *
              have A6 := hid hA6
              obtain ⟨oa, oc, hoe⟩ := owns_form (hA6.1.2.1 : w6.ownsRow 0 9 1 v6 (L.map encStr).length (L.map encStr))
              rw [List.length_map] at hoe
              subst hoe
              clear hA6
              have NX := hid NX
              have HM := hid hmem
              have HCN := hid hcount
              clear hmem hcount
              go_wp2
              go_loopw [14, 100] (fun tv kv wr => ∃ k : Nat, k ≤ L.length ∧ kv = .int .i64 (k : Int) ∧ tv = .int .i64 (((L.take k).count nm : Nat) : Int) ∧ wr = w6) (fun _ kv _ => L.length - (intOf kv).toNat)
              case atStart => exact ⟨0, by omega, rfl, by simp, rfl⟩
              case round =>
                obtain ⟨k, hk, rfl, rfl, rfl⟩ := hrel
                by_cases hkl : k < L.length
                · obtain ⟨x, hx⟩ : ∃ x, L[k]? = some x := ⟨_, List.getElem?_eq_getElem hkl⟩
                  obtain ⟨go, hgo, hcx, _⟩ := owns_at (k := k) (u := encStr x) (A6.out.1.2.1) (by rw [List.getElem?_map, hx]; rfl)
                  subst hgo
                  have hct := count_take hx nm
                  have hcl : (L.take k).count nm ≤ 1048576 := Nat.le_trans List.count_le_length (by simp; omega)
                  by_cases hxe : x = nm
                  · have hxe' := hxe.symm
                    subst hxe'
                    rw [if_pos (by simp)] at hct
                    have HCT := hid hct
                    clear hct hx
                    go_wp2
                    go_roundw
                    case rel => exact ⟨k + 1, by omega, by go_num, by rw [HCT.out]; go_num, by first | rfl | trivial⟩
                    case measure => simp [intOf]; omega
                  · rw [if_neg (by simpa using hxe)] at hct
                    have HCT := hid hct
                    have hne : ¬ (⟨x.toArray⟩ : ByteArray) = ⟨nm.toArray⟩ := fun e => hxe (by simpa using e)
                    have hb1 : (x == nm) = false := by simpa using hxe
                    have hb2 : decide (x = nm) = false := decide_eq_false hxe
                    clear hct hx
                    go_wp2
                    go_roundw
                    case rel => exact ⟨k + 1, by omega, by go_num, by rw [HCT.out]; simp, by first | rfl | trivial⟩
                    case measure => simp [intOf]; omega
                · have hLn : (L.take k).count nm = 0 := by
                    rw [List.take_of_length_le (by omega), HCN.out]
                    exact if_neg (fun e => by have := (HM.out.1 (List.mem_map.2 ⟨nm, e, rfl⟩)).1; cases this)
                  rw [hLn]
                  clear hLn
                  go_wp2
                  go_roundw
                  case rel => exact ⟨i + 1, n', D6, by go_num, by omega, by omega, NX, hid A6.out.tail⟩
                  case measure => simp [intOf]; omega
            · go_wp2_with fail
              refine (Cancel_other PA.out.swap ⟨nl.toArray⟩ hxn HKN.out).mono ?_
              rintro e w4 ⟨v4, n', D', rfl, hn', h1', h2', hA4⟩
              have AR := hid hA4.dropMid
              have RS := hid (RR.out.same h1' h2')
              have hnn : n' ≤ i + 1 := by omega
              clear h1' h2' hA4 RA RR hn' cx0 cx2 cx4
              have hLeft := LeftS AR.out ⟨nm.toArray⟩ hnm
              simp only at hLeft
              rw [RS.out.has] at hLeft
              simp only [Bool.false_and] at hLeft
              generalize leftD _ _ = ll at hLeft
              have HL := hid hLeft
              clear hLeft
              go_wp2_with fail
              refine HL.out.mono ?_
              rintro e w5 ⟨rfl, rfl⟩
              clear HL
              go_wp2_with fail
              refine (TickS AR.out (by omega)).mono ?_
              rintro e w6 ⟨v6, ss, D6, rfl, hT, hA6⟩
              have hssl : ss.length ≤ 1048576 := by
                have h1 := hT.size
                have h2 := AR.out.1.2.1.2.size_le
                simp at h1
                omega
              obtain ⟨NX, hmem⟩ := RS.out.tick hT
              have hcount := told_count (nm := nm) hT
              clear hT
              have hLl : (ss.mergeSort fun x y => decide (x ≤ y)).length ≤ 1048576 := by simpa using hssl
              generalize (ss.mergeSort fun x y => decide (x ≤ y)) = L at *
              have A6 := hid hA6
              obtain ⟨oa, oc, hoe⟩ := owns_form (hA6.1.2.1 : w6.ownsRow 0 9 1 v6 (L.map encStr).length (L.map encStr))
              rw [List.length_map] at hoe
              subst hoe
              clear hA6
              have NX := hid NX
              have HM := hid hmem
              have HCN := hid hcount
              clear hmem hcount
              go_wp2
              go_loopw [14, 100] (fun tv kv wr => ∃ k : Nat, k ≤ L.length ∧ kv = .int .i64 (k : Int) ∧ tv = .int .i64 (((L.take k).count nm : Nat) : Int) ∧ wr = w6) (fun _ kv _ => L.length - (intOf kv).toNat)
              case atStart => exact ⟨0, by omega, rfl, by simp, rfl⟩
              case round =>
                obtain ⟨k, hk, rfl, rfl, rfl⟩ := hrel
                by_cases hkl : k < L.length
                · obtain ⟨x, hx⟩ : ∃ x, L[k]? = some x := ⟨_, List.getElem?_eq_getElem hkl⟩
                  obtain ⟨go, hgo, hcx, _⟩ := owns_at (k := k) (u := encStr x) (A6.out.1.2.1) (by rw [List.getElem?_map, hx]; rfl)
                  subst hgo
                  have hct := count_take hx nm
                  have hcl : (L.take k).count nm ≤ 1048576 := Nat.le_trans List.count_le_length (by simp; omega)
                  by_cases hxe : x = nm
                  · have hxe' := hxe.symm
                    subst hxe'
                    rw [if_pos (by simp)] at hct
                    have HCT := hid hct
                    clear hct hx
                    go_wp2
                    go_roundw
                    case rel => exact ⟨k + 1, by omega, by go_num, by rw [HCT.out]; go_num, by first | rfl | trivial⟩
                    case measure => simp [intOf]; omega
                  · rw [if_neg (by simpa using hxe)] at hct
                    have HCT := hid hct
                    have hne : ¬ (⟨x.toArray⟩ : ByteArray) = ⟨nm.toArray⟩ := fun e => hxe (by simpa using e)
                    have hb1 : (x == nm) = false := by simpa using hxe
                    have hb2 : decide (x = nm) = false := decide_eq_false hxe
                    clear hct hx
                    go_wp2
                    go_roundw
                    case rel => exact ⟨k + 1, by omega, by go_num, by rw [HCT.out]; simp, by first | rfl | trivial⟩
                    case measure => simp [intOf]; omega
                · have hLn : (L.take k).count nm = 0 := by
                    rw [List.take_of_length_le (by omega), HCN.out]
                    exact if_neg (fun e => by have := (HM.out.1 (List.mem_map.2 ⟨nm, e, rfl⟩)).1; cases this)
                  rw [hLn]
                  clear hLn
                  go_wp2
                  go_roundw
                  case rel => exact ⟨i + 1, n', D6, by go_num, by omega, by omega, NX, hid A6.out.tail⟩
                  case measure => simp [intOf]; omega
        · skip
          obtain ⟨n', hn'⟩ : ∃ n', n' = n := ⟨n, rfl⟩
          subst hn'
          obtain ⟨D', hD'⟩ : ∃ D', D' = D := ⟨D, rfl⟩
          subst hD'
          have hnn : n' ≤ i + 1 := by omega
          have AR := hid RA.out
          have RS := hid RR.out
          clear RA RR
          have hLeft := LeftS AR.out ⟨nm.toArray⟩ hnm
          simp only at hLeft
          rw [RS.out.has] at hLeft
          simp only [Bool.false_and] at hLeft
          generalize leftD _ _ = ll at hLeft
          have HL := hid hLeft
          clear hLeft
          go_wp2_with fail
          refine HL.out.mono ?_
          rintro e w5 ⟨rfl, rfl⟩
          clear HL
          go_wp2_with fail
          refine (TickS AR.out (by omega)).mono ?_
          rintro e w6 ⟨v6, ss, D6, rfl, hT, hA6⟩
          have hssl : ss.length ≤ 1048576 := by
            have h1 := hT.size
            have h2 := AR.out.1.2.1.2.size_le
            simp at h1
            omega
          obtain ⟨NX, hmem⟩ := RS.out.tick hT
          have hcount := told_count (nm := nm) hT
          clear hT
          have hLl : (ss.mergeSort fun x y => decide (x ≤ y)).length ≤ 1048576 := by simpa using hssl
          generalize (ss.mergeSort fun x y => decide (x ≤ y)) = L at *
          have A6 := hid hA6
          obtain ⟨oa, oc, hoe⟩ := owns_form (hA6.1.2.1 : w6.ownsRow 0 9 1 v6 (L.map encStr).length (L.map encStr))
          rw [List.length_map] at hoe
          subst hoe
          clear hA6
          have NX := hid NX
          have HM := hid hmem
          have HCN := hid hcount
          clear hmem hcount
          go_wp2
          go_loopw [14, 100] (fun tv kv wr => ∃ k : Nat, k ≤ L.length ∧ kv = .int .i64 (k : Int) ∧ tv = .int .i64 (((L.take k).count nm : Nat) : Int) ∧ wr = w6) (fun _ kv _ => L.length - (intOf kv).toNat)
          case atStart => exact ⟨0, by omega, rfl, by simp, rfl⟩
          case round =>
            obtain ⟨k, hk, rfl, rfl, rfl⟩ := hrel
            by_cases hkl : k < L.length
            · obtain ⟨x, hx⟩ : ∃ x, L[k]? = some x := ⟨_, List.getElem?_eq_getElem hkl⟩
              obtain ⟨go, hgo, hcx, _⟩ := owns_at (k := k) (u := encStr x) (A6.out.1.2.1) (by rw [List.getElem?_map, hx]; rfl)
              subst hgo
              have hct := count_take hx nm
              have hcl : (L.take k).count nm ≤ 1048576 := Nat.le_trans List.count_le_length (by simp; omega)
              by_cases hxe : x = nm
              · have hxe' := hxe.symm
                subst hxe'
                rw [if_pos (by simp)] at hct
                have HCT := hid hct
                clear hct hx
                go_wp2
                go_roundw
                case rel => exact ⟨k + 1, by omega, by go_num, by rw [HCT.out]; go_num, by first | rfl | trivial⟩
                case measure => simp [intOf]; omega
              · rw [if_neg (by simpa using hxe)] at hct
                have HCT := hid hct
                have hne : ¬ (⟨x.toArray⟩ : ByteArray) = ⟨nm.toArray⟩ := fun e => hxe (by simpa using e)
                have hb1 : (x == nm) = false := by simpa using hxe
                have hb2 : decide (x = nm) = false := decide_eq_false hxe
                clear hct hx
                go_wp2
                go_roundw
                case rel => exact ⟨k + 1, by omega, by go_num, by rw [HCT.out]; simp, by first | rfl | trivial⟩
                case measure => simp [intOf]; omega
            · have hLn : (L.take k).count nm = 0 := by
                rw [List.take_of_length_le (by omega), HCN.out]
                exact if_neg (fun e => by have := (HM.out.1 (List.mem_map.2 ⟨nm, e, rfl⟩)).1; cases this)
              rw [hLn]
              clear hLn
              go_wp2
              go_roundw
              case rel => exact ⟨i + 1, n', D6, by go_num, by omega, by omega, NX, hid A6.out.tail⟩
              case measure => simp [intOf]; omega
      · go_wp2
        go_ret
        exact ⟨rfl, RA.out.into (by simp)⟩
  · go_enter Try.func5, Try.ntmps5
    go_wp2_with fail
    refine (NewS (All.came w)).mono ?_
    rintro e w1 ⟨P, b, rfl, hA1⟩
    have A1 := hid hA1
    clear hA1
    go_wp2_with fail
    refine (ArmS_ticks A1.out ⟨nm.toArray⟩ (Or.inr ht)).mono ?_
    rintro e w2 ⟨rfl, rfl⟩
    have A2 := hid A1.out
    have R2 := hid (show RunSt false t 1 (.map [] : DataW Unit) (Lit.string nm) from ⟨rfl, fun h => by cases h⟩)
    clear A1
    go_wp2
    go_loopw [9] (fun iv wr => ∃ (i n : Nat) (D : DataW Unit), iv = .int .i64 (i : Int) ∧ (1 ≤ i ∧ i ≤ 1026) ∧ n ≤ i ∧ Hid (RunSt false t i D (Lit.string nm)) ∧ Hid (All [tabS P b n D, inC w] wr)) (fun iv _ => 1026 - (intOf iv).toNat)
    case atStart => exact ⟨1, 0, _, rfl, by omega, by omega, R2, A2⟩
    case round =>
      obtain ⟨i, n, D, rfl, ⟨hi0, hi1025⟩, hni, RR, RA⟩ := hrel
      clear R2 A2
      by_cases hlt : i ≤ 1025
      · skip
        by_cases hlen : i ≤ xs.length
        · obtain ⟨x, hx⟩ : ∃ x, xs[i - 1]? = some x := ⟨_, List.getElem?_eq_getElem (by omega)⟩
          obtain ⟨sb, sof, hso, x0, x1, x2, x3, x4⟩ := HS.out.at (RA.out.into (w0 := w) (by simp)) hx
          subst hso
          have hxn := HX.out x (List.mem_of_getElem? hx)
          obtain ⟨kd, at_, nmx, nu, tk⟩ := x
          simp only at x0 x1 x2 x3 x4 hxn
          obtain ⟨nl, hnl⟩ : ∃ nl : List UInt8, nmx = ⟨nl.toArray⟩ := ⟨nmx.data.toList, by simp⟩
          subst hnl
          have hi1 : ((i : Int) - 1) = ((i - 1 : Nat) : Int) := by omega
          clear hx
          by_cases heq : nl = nm
          · have heq' := heq.symm
            subst heq'
            clear x0 x1 x3 x4 hxn
            obtain ⟨n', hn'⟩ : ∃ n', n' = n := ⟨n, rfl⟩
            subst hn'
            obtain ⟨D', hD'⟩ : ∃ D', D' = D := ⟨D, rfl⟩
            subst hD'
            have hnn : n' ≤ i + 1 := by omega
            have AR := hid RA.out
            have RS := hid RR.out
            clear RA RR
            have hLeft := LeftS AR.out ⟨nm.toArray⟩ hnm
            simp only at hLeft
            rw [RS.out.has] at hLeft
            simp only [Bool.false_and] at hLeft
            generalize leftD _ _ = ll at hLeft
            have HL := hid hLeft
            clear hLeft
            go_wp2_with fail
            refine HL.out.mono ?_
            rintro e w5 ⟨rfl, rfl⟩
            clear HL
            go_wp2_with fail
            refine (TickS AR.out (by omega)).mono ?_
            rintro e w6 ⟨v6, ss, D6, rfl, hT, hA6⟩
            have hssl : ss.length ≤ 1048576 := by
              have h1 := hT.size
              have h2 := AR.out.1.2.1.2.size_le
              simp at h1
              omega
            obtain ⟨NX, hmem⟩ := RS.out.tick hT
            have hcount := told_count (nm := nm) hT
            clear hT
            have hLl : (ss.mergeSort fun x y => decide (x ≤ y)).length ≤ 1048576 := by simpa using hssl
            generalize (ss.mergeSort fun x y => decide (x ≤ y)) = L at *
            have A6 := hid hA6
            obtain ⟨oa, oc, hoe⟩ := owns_form (hA6.1.2.1 : w6.ownsRow 0 9 1 v6 (L.map encStr).length (L.map encStr))
            rw [List.length_map] at hoe
            subst hoe
            clear hA6
            have NX := hid NX
            have HM := hid hmem
            have HCN := hid hcount
            clear hmem hcount
            go_wp2
            go_loopw [14, 100] (fun tv kv wr => ∃ k : Nat, k ≤ L.length ∧ kv = .int .i64 (k : Int) ∧ tv = .int .i64 (((L.take k).count nm : Nat) : Int) ∧ wr = w6) (fun _ kv _ => L.length - (intOf kv).toNat)
            case atStart => exact ⟨0, by omega, rfl, by simp, rfl⟩
            case round =>
              obtain ⟨k, hk, rfl, rfl, rfl⟩ := hrel
              by_cases hkl : k < L.length
              · obtain ⟨x, hx⟩ : ∃ x, L[k]? = some x := ⟨_, List.getElem?_eq_getElem hkl⟩
                obtain ⟨go, hgo, hcx, _⟩ := owns_at (k := k) (u := encStr x) (A6.out.1.2.1) (by rw [List.getElem?_map, hx]; rfl)
                subst hgo
                have hct := count_take hx nm
                have hcl : (L.take k).count nm ≤ 1048576 := Nat.le_trans List.count_le_length (by simp; omega)
                by_cases hxe : x = nm
                · have hxe' := hxe.symm
                  subst hxe'
                  rw [if_pos (by simp)] at hct
                  have HCT := hid hct
                  clear hct hx
                  go_wp2
                  go_roundw
                  case rel => exact ⟨k + 1, by omega, by go_num, by rw [HCT.out]; go_num, by first | rfl | trivial⟩
                  case measure => simp [intOf]; omega
                · rw [if_neg (by simpa using hxe)] at hct
                  have HCT := hid hct
                  have hne : ¬ (⟨x.toArray⟩ : ByteArray) = ⟨nm.toArray⟩ := fun e => hxe (by simpa using e)
                  have hb1 : (x == nm) = false := by simpa using hxe
                  have hb2 : decide (x = nm) = false := decide_eq_false hxe
                  clear hct hx
                  go_wp2
                  go_roundw
                  case rel => exact ⟨k + 1, by omega, by go_num, by rw [HCT.out]; simp, by first | rfl | trivial⟩
                  case measure => simp [intOf]; omega
              · have hLn : (L.take k).count nm = 0 := by
                  rw [List.take_of_length_le (by omega), HCN.out]
                  exact if_neg (fun e => by have := (HM.out.1 (List.mem_map.2 ⟨nm, e, rfl⟩)).1; cases this)
                rw [hLn]
                clear hLn
                go_wp2
                go_roundw
                case rel => exact ⟨i + 1, n', D6, by go_num, by omega, by omega, NX, hid A6.out.tail⟩
                case measure => simp [intOf]; omega
          · have hkne : Lit.string nm ≠ Lit.string (⟨nl.toArray⟩ : ByteArray).data.toList := fun e => heq (by
              injection e with e
              simpa using e.symm)
            have hb3 : (nl == nm) = false := by simpa using heq
            have hb4 : decide (nl = nm) = false := decide_eq_false heq
            have HKN := hid hkne
            have PA := hid (RA.out.addBlk (Ac.cells ⟨kd, at_, ⟨nl.toArray⟩, nu, tk⟩) 40)
            obtain ⟨cx0, _⟩ := blk_cell PA.out (g := wr.heap.size) (t := 40) (j := 0) (by simp) (rfl : (Ac.cells ⟨kd, at_, ⟨nl.toArray⟩, nu, tk⟩)[0]? = some (.int .i64 kd))
            obtain ⟨cx2, _⟩ := blk_cell PA.out (g := wr.heap.size) (t := 40) (j := 2) (by simp) (rfl : (Ac.cells ⟨kd, at_, ⟨nl.toArray⟩, nu, tk⟩)[2]? = some (.string ⟨nl.toArray⟩))
            obtain ⟨cx4, _⟩ := blk_cell PA.out (g := wr.heap.size) (t := 40) (j := 4) (by simp) (rfl : (Ac.cells ⟨kd, at_, ⟨nl.toArray⟩, nu, tk⟩)[4]? = some (.int .i64 tk))
            simp only [Ac.cells] at cx0 cx2 cx4 PA
            clear hkne
            by_cases hmod : kd.tmod 2 = 0
            · go_wp2_with fail
              refine (Arm_other PA.out.swap ⟨nl.toArray⟩ hxn tk (by omega) HKN.out).mono ?_
              rintro e w4 ⟨v4, n', D', rfl, hn', h1', h2', hA4⟩
              have AR := hid hA4.dropMid
              have RS := hid (RR.out.same h1' h2')
              have hnn : n' ≤ i + 1 := by omega
              clear h1' h2' hA4 RA RR hn' cx0 cx2 cx4
              have hLeft := LeftS AR.out ⟨nm.toArray⟩ hnm
              simp only at hLeft
              rw [RS.out.has] at hLeft
              simp only [Bool.false_and] at hLeft
              generalize leftD _ _ = ll at hLeft
              have HL := hid hLeft
              clear hLeft
              go_wp2_with fail
              refine HL.out.mono ?_
              rintro e w5 ⟨rfl, rfl⟩
              clear HL
              go_wp2_with fail
              refine (TickS AR.out (by omega)).mono ?_
              rintro e w6 ⟨v6, ss, D6, rfl, hT, hA6⟩
              have hssl : ss.length ≤ 1048576 := by
                have h1 := hT.size
                have h2 := AR.out.1.2.1.2.size_le
                simp at h1
                omega
              obtain ⟨NX, hmem⟩ := RS.out.tick hT
              have hcount := told_count (nm := nm) hT
              clear hT
              have hLl : (ss.mergeSort fun x y => decide (x ≤ y)).length ≤ 1048576 := by simpa using hssl
              generalize (ss.mergeSort fun x y => decide (x ≤ y)) = L at *
              have A6 := hid hA6
              obtain ⟨oa, oc, hoe⟩ := owns_form (hA6.1.2.1 : w6.ownsRow 0 9 1 v6 (L.map encStr).length (L.map encStr))
              rw [List.length_map] at hoe
              subst hoe
              clear hA6
              have NX := hid NX
              have HM := hid hmem
              have HCN := hid hcount
              clear hmem hcount
              go_wp2
              go_loopw [14, 100] (fun tv kv wr => ∃ k : Nat, k ≤ L.length ∧ kv = .int .i64 (k : Int) ∧ tv = .int .i64 (((L.take k).count nm : Nat) : Int) ∧ wr = w6) (fun _ kv _ => L.length - (intOf kv).toNat)
              case atStart => exact ⟨0, by omega, rfl, by simp, rfl⟩
              case round =>
                obtain ⟨k, hk, rfl, rfl, rfl⟩ := hrel
                by_cases hkl : k < L.length
                · obtain ⟨x, hx⟩ : ∃ x, L[k]? = some x := ⟨_, List.getElem?_eq_getElem hkl⟩
                  obtain ⟨go, hgo, hcx, _⟩ := owns_at (k := k) (u := encStr x) (A6.out.1.2.1) (by rw [List.getElem?_map, hx]; rfl)
                  subst hgo
                  have hct := count_take hx nm
                  have hcl : (L.take k).count nm ≤ 1048576 := Nat.le_trans List.count_le_length (by simp; omega)
                  by_cases hxe : x = nm
                  · have hxe' := hxe.symm
                    subst hxe'
                    rw [if_pos (by simp)] at hct
                    have HCT := hid hct
                    clear hct hx
                    go_wp2
                    go_roundw
                    case rel => exact ⟨k + 1, by omega, by go_num, by rw [HCT.out]; go_num, by first | rfl | trivial⟩
                    case measure => simp [intOf]; omega
                  · rw [if_neg (by simpa using hxe)] at hct
                    have HCT := hid hct
                    have hne : ¬ (⟨x.toArray⟩ : ByteArray) = ⟨nm.toArray⟩ := fun e => hxe (by simpa using e)
                    have hb1 : (x == nm) = false := by simpa using hxe
                    have hb2 : decide (x = nm) = false := decide_eq_false hxe
                    clear hct hx
                    go_wp2
                    go_roundw
                    case rel => exact ⟨k + 1, by omega, by go_num, by rw [HCT.out]; simp, by first | rfl | trivial⟩
                    case measure => simp [intOf]; omega
                · have hLn : (L.take k).count nm = 0 := by
                    rw [List.take_of_length_le (by omega), HCN.out]
                    exact if_neg (fun e => by have := (HM.out.1 (List.mem_map.2 ⟨nm, e, rfl⟩)).1; cases this)
                  rw [hLn]
                  clear hLn
                  go_wp2
                  go_roundw
                  case rel => exact ⟨i + 1, n', D6, by go_num, by omega, by omega, NX, hid A6.out.tail⟩
                  case measure => simp [intOf]; omega
            · go_wp2_with fail
              refine (Cancel_other PA.out.swap ⟨nl.toArray⟩ hxn HKN.out).mono ?_
              rintro e w4 ⟨v4, n', D', rfl, hn', h1', h2', hA4⟩
              have AR := hid hA4.dropMid
              have RS := hid (RR.out.same h1' h2')
              have hnn : n' ≤ i + 1 := by omega
              clear h1' h2' hA4 RA RR hn' cx0 cx2 cx4
              have hLeft := LeftS AR.out ⟨nm.toArray⟩ hnm
              simp only at hLeft
              rw [RS.out.has] at hLeft
              simp only [Bool.false_and] at hLeft
              generalize leftD _ _ = ll at hLeft
              have HL := hid hLeft
              clear hLeft
              go_wp2_with fail
              refine HL.out.mono ?_
              rintro e w5 ⟨rfl, rfl⟩
              clear HL
              go_wp2_with fail
              refine (TickS AR.out (by omega)).mono ?_
              rintro e w6 ⟨v6, ss, D6, rfl, hT, hA6⟩
              have hssl : ss.length ≤ 1048576 := by
                have h1 := hT.size
                have h2 := AR.out.1.2.1.2.size_le
                simp at h1
                omega
              obtain ⟨NX, hmem⟩ := RS.out.tick hT
              have hcount := told_count (nm := nm) hT
              clear hT
              have hLl : (ss.mergeSort fun x y => decide (x ≤ y)).length ≤ 1048576 := by simpa using hssl
              generalize (ss.mergeSort fun x y => decide (x ≤ y)) = L at *
              have A6 := hid hA6
              obtain ⟨oa, oc, hoe⟩ := owns_form (hA6.1.2.1 : w6.ownsRow 0 9 1 v6 (L.map encStr).length (L.map encStr))
              rw [List.length_map] at hoe
              subst hoe
              clear hA6
              have NX := hid NX
              have HM := hid hmem
              have HCN := hid hcount
              clear hmem hcount
              go_wp2
              go_loopw [14, 100] (fun tv kv wr => ∃ k : Nat, k ≤ L.length ∧ kv = .int .i64 (k : Int) ∧ tv = .int .i64 (((L.take k).count nm : Nat) : Int) ∧ wr = w6) (fun _ kv _ => L.length - (intOf kv).toNat)
              case atStart => exact ⟨0, by omega, rfl, by simp, rfl⟩
              case round =>
                obtain ⟨k, hk, rfl, rfl, rfl⟩ := hrel
                by_cases hkl : k < L.length
                · obtain ⟨x, hx⟩ : ∃ x, L[k]? = some x := ⟨_, List.getElem?_eq_getElem hkl⟩
                  obtain ⟨go, hgo, hcx, _⟩ := owns_at (k := k) (u := encStr x) (A6.out.1.2.1) (by rw [List.getElem?_map, hx]; rfl)
                  subst hgo
                  have hct := count_take hx nm
                  have hcl : (L.take k).count nm ≤ 1048576 := Nat.le_trans List.count_le_length (by simp; omega)
                  by_cases hxe : x = nm
                  · have hxe' := hxe.symm
                    subst hxe'
                    rw [if_pos (by simp)] at hct
                    have HCT := hid hct
                    clear hct hx
                    go_wp2
                    go_roundw
                    case rel => exact ⟨k + 1, by omega, by go_num, by rw [HCT.out]; go_num, by first | rfl | trivial⟩
                    case measure => simp [intOf]; omega
                  · rw [if_neg (by simpa using hxe)] at hct
                    have HCT := hid hct
                    have hne : ¬ (⟨x.toArray⟩ : ByteArray) = ⟨nm.toArray⟩ := fun e => hxe (by simpa using e)
                    have hb1 : (x == nm) = false := by simpa using hxe
                    have hb2 : decide (x = nm) = false := decide_eq_false hxe
                    clear hct hx
                    go_wp2
                    go_roundw
                    case rel => exact ⟨k + 1, by omega, by go_num, by rw [HCT.out]; simp, by first | rfl | trivial⟩
                    case measure => simp [intOf]; omega
                · have hLn : (L.take k).count nm = 0 := by
                    rw [List.take_of_length_le (by omega), HCN.out]
                    exact if_neg (fun e => by have := (HM.out.1 (List.mem_map.2 ⟨nm, e, rfl⟩)).1; cases this)
                  rw [hLn]
                  clear hLn
                  go_wp2
                  go_roundw
                  case rel => exact ⟨i + 1, n', D6, by go_num, by omega, by omega, NX, hid A6.out.tail⟩
                  case measure => simp [intOf]; omega
        · skip
          obtain ⟨n', hn'⟩ : ∃ n', n' = n := ⟨n, rfl⟩
          subst hn'
          obtain ⟨D', hD'⟩ : ∃ D', D' = D := ⟨D, rfl⟩
          subst hD'
          have hnn : n' ≤ i + 1 := by omega
          have AR := hid RA.out
          have RS := hid RR.out
          clear RA RR
          have hLeft := LeftS AR.out ⟨nm.toArray⟩ hnm
          simp only at hLeft
          rw [RS.out.has] at hLeft
          simp only [Bool.false_and] at hLeft
          generalize leftD _ _ = ll at hLeft
          have HL := hid hLeft
          clear hLeft
          go_wp2_with fail
          refine HL.out.mono ?_
          rintro e w5 ⟨rfl, rfl⟩
          clear HL
          go_wp2_with fail
          refine (TickS AR.out (by omega)).mono ?_
          rintro e w6 ⟨v6, ss, D6, rfl, hT, hA6⟩
          have hssl : ss.length ≤ 1048576 := by
            have h1 := hT.size
            have h2 := AR.out.1.2.1.2.size_le
            simp at h1
            omega
          obtain ⟨NX, hmem⟩ := RS.out.tick hT
          have hcount := told_count (nm := nm) hT
          clear hT
          have hLl : (ss.mergeSort fun x y => decide (x ≤ y)).length ≤ 1048576 := by simpa using hssl
          generalize (ss.mergeSort fun x y => decide (x ≤ y)) = L at *
          have A6 := hid hA6
          obtain ⟨oa, oc, hoe⟩ := owns_form (hA6.1.2.1 : w6.ownsRow 0 9 1 v6 (L.map encStr).length (L.map encStr))
          rw [List.length_map] at hoe
          subst hoe
          clear hA6
          have NX := hid NX
          have HM := hid hmem
          have HCN := hid hcount
          clear hmem hcount
          go_wp2
          go_loopw [14, 100] (fun tv kv wr => ∃ k : Nat, k ≤ L.length ∧ kv = .int .i64 (k : Int) ∧ tv = .int .i64 (((L.take k).count nm : Nat) : Int) ∧ wr = w6) (fun _ kv _ => L.length - (intOf kv).toNat)
          case atStart => exact ⟨0, by omega, rfl, by simp, rfl⟩
          case round =>
            obtain ⟨k, hk, rfl, rfl, rfl⟩ := hrel
            by_cases hkl : k < L.length
            · obtain ⟨x, hx⟩ : ∃ x, L[k]? = some x := ⟨_, List.getElem?_eq_getElem hkl⟩
              obtain ⟨go, hgo, hcx, _⟩ := owns_at (k := k) (u := encStr x) (A6.out.1.2.1) (by rw [List.getElem?_map, hx]; rfl)
              subst hgo
              have hct := count_take hx nm
              have hcl : (L.take k).count nm ≤ 1048576 := Nat.le_trans List.count_le_length (by simp; omega)
              by_cases hxe : x = nm
              · have hxe' := hxe.symm
                subst hxe'
                rw [if_pos (by simp)] at hct
                have HCT := hid hct
                clear hct hx
                go_wp2
                go_roundw
                case rel => exact ⟨k + 1, by omega, by go_num, by rw [HCT.out]; go_num, by first | rfl | trivial⟩
                case measure => simp [intOf]; omega
              · rw [if_neg (by simpa using hxe)] at hct
                have HCT := hid hct
                have hne : ¬ (⟨x.toArray⟩ : ByteArray) = ⟨nm.toArray⟩ := fun e => hxe (by simpa using e)
                have hb1 : (x == nm) = false := by simpa using hxe
                have hb2 : decide (x = nm) = false := decide_eq_false hxe
                clear hct hx
                go_wp2
                go_roundw
                case rel => exact ⟨k + 1, by omega, by go_num, by rw [HCT.out]; simp, by first | rfl | trivial⟩
                case measure => simp [intOf]; omega
            · have hLn : (L.take k).count nm = 0 := by
                rw [List.take_of_length_le (by omega), HCN.out]
                exact if_neg (fun e => by have := (HM.out.1 (List.mem_map.2 ⟨nm, e, rfl⟩)).1; cases this)
              rw [hLn]
              clear hLn
              go_wp2
              go_roundw
              case rel => exact ⟨i + 1, n', D6, by go_num, by omega, by omega, NX, hid A6.out.tail⟩
              case measure => simp [intOf]; omega
      · go_wp2
        go_ret
        exact ⟨rfl, RA.out.into (by simp)⟩

theorem runs_walk {w : World} {v : Value} {xs : List Ac} {s : ByteArray} (t : Int) (hs : s.size ≤ maxLen) (ha : ActsAt w v xs) (hx : ∀ x ∈ xs, x.name.size ≤ maxLen) : Calls Try.prog 5 #[.string s, .int .i64 t, v] w fun e w' => e = .returned (.bool true) ∧ Below w.heap.size w w' := by
  obtain ⟨nm, rfl⟩ : ∃ nm : List UInt8, s = ⟨nm.toArray⟩ := ⟨s.data.toList, by simp⟩
  by_cases h : t < 1 ∨ 1024 < t
  · exact runs_bad hs h ha hx
  · exact runs_good hs (by omega) (by omega) ha hx
end Go.Proofs.Ytphcfkfdkaphbaa

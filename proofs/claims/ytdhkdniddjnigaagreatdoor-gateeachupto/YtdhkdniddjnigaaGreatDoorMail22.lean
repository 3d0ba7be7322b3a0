import Derived.Test.YtdhkdniddjnigaaGreatDoorMail21
namespace Go.Proofs.YtdhkdniddjnigaaGreatDoor
open Go.RowKit Go.Lib
set_option linter.unusedVariables false

/-- The error of a letter. -/
def refN (r : Nat) : Int := if r = 86 then 113 else if r = 75 ∨ r = 67 ∨ r = 78 ∨ r = 76 ∨ r = 81 then 114 else 115
theorem refusal_any {w : World} (r : UInt8) (h : r ∈ allF.data.toList) : Calls Tryz.prog 127 #[.int .i32 (r.toNat : Int)] w fun e w' => e = .returned (.int .i64 (refN r.toNat)) ∧ w' = w := by
  have h : r ∈ [(86 : UInt8), 75, 67, 78, 76, 81, 72, 79, 82, 69, 71] := h
  simp only [List.mem_cons, List.not_mem_nil, or_false] at h
  rcases h with rfl | rfl | rfl | rfl | rfl | rfl | rfl | rfl | rfl | rfl | rfl
  all_goals
    go_enter Tryz.func127, Tryz.ntmps127
    go_wp2
    go_ret
    exact ⟨rfl, rfl⟩
theorem fld_in (k : Nat) (r : UInt8) (h : r ∈ fldN.getD k []) : r ∈ allF.data.toList := by
  have key : ∀ l ∈ fldN, ∀ r ∈ l, r ∈ allF.data.toList := by decide
  by_cases hk : k < fldN.length
  · rw [List.getD, List.getElem?_eq_getElem hk] at h
    exact key _ (List.getElem_mem hk) r h
  · rw [List.getD, List.getElem?_eq_none (by omega)] at h
    cases h
/-- What checkFields tells. -/
def fldE (k : Nat) (h : Bool) (may zero : Nat → Bool) : Int :=
  match (fldN.getD k []).find? (fun r => inH k h r.toNat && !may r.toNat) with
  | some r => refN r.toNat
  | none => if allF.data.toList.all (fun r => inH k h r.toNat || zero r.toNat) then 0 else 116
theorem fldE_no {k : Nat} {h : Bool} {may zero : Nat → Bool} {p : Nat} {r : UInt8} (h1 : (fldN.getD k [])[p]? = some r) (h2 : (inH k h r.toNat && !may r.toNat) = true)
    (h3 : ∀ (q : Nat) (r' : UInt8), q < p → (fldN.getD k [])[q]? = some r' → (inH k h r'.toNat && !may r'.toNat) = false) : fldE k h may zero = refN r.toNat := by
  have hf : (fldN.getD k []).find? (fun r => inH k h r.toNat && !may r.toNat) = some r := by
    rw [List.find?_eq_some_iff_getElem]
    obtain ⟨hp, e⟩ := List.getElem?_eq_some_iff.1 h1
    refine ⟨h2, p, hp, e, fun j hj => ?_⟩
    rw [h3 j _ hj (List.getElem?_eq_getElem (by omega))]
    rfl
  unfold fldE
  rw [hf]
theorem fldE_all {k : Nat} {h : Bool} {may zero : Nat → Bool} (h3 : ∀ (q : Nat) (r' : UInt8), (fldN.getD k [])[q]? = some r' → (inH k h r'.toNat && !may r'.toNat) = false) : fldE k h may zero = if allF.data.toList.all (fun r => inH k h r.toNat || zero r.toNat) then 0 else 116 := by
  have hf : (fldN.getD k []).find? (fun r => inH k h r.toNat && !may r.toNat) = none := by
    rw [List.find?_eq_none]
    intro r hr
    obtain ⟨q, hq⟩ := List.getElem?_of_mem hr
    rw [h3 q r hq]
    simp
  unfold fldE
  rw [hf]
set_option maxHeartbeats 1600000 in
set_option maxRecDepth 100000 in
theorem fields_any (may zero : Nat → Bool) {w : World} {b k : Nat} {m : Ms} (hF : Fld w) (hM : MsAt w b m) (hk : k < 16) (hmk : m.k = k)
    (H1 : ∀ (p : Nat) (r : UInt8), (fldN.getD k [])[p]? = some r → inH k m.h r.toNat = true → (∀ (q : Nat) (r' : UInt8), q < p → (fldN.getD k [])[q]? = some r' → (inH k m.h r'.toNat && !may r'.toNat) = false) → ∀ W, Below w.heap.size w W → Calls Tryz.prog 126 #[.pointer (some ⟨b, 0, none⟩), .int .i32 (r.toNat : Int)] W fun e w' => e = .returned (.bool (may r.toNat)) ∧ Below W.heap.size W w')
    (H2 : ∀ r ∈ allF.data.toList, inH k m.h r.toNat = false → ∀ W, Below w.heap.size w W → Calls Tryz.prog 128 #[.pointer (some ⟨b, 0, none⟩), .int .i32 (r.toNat : Int)] W fun e w' => e = .returned (.bool (zero r.toNat)) ∧ Below W.heap.size W w') :
    Calls Tryz.prog 94 #[.pointer (some ⟨b, 0, none⟩)] w fun e w' => e = .returned (.int .i64 (fldE k m.h may zero)) ∧ Below w.heap.size w w' := by
  have h128 : ∀ (i : Nat) (h : i < (fldS k).size), ((fldS k)[i]'h).toNat < 128 ∧ (fldS k)[i]'h ∈ fldN.getD k [] ∧ (fldN.getD k [])[i]? = some ((fldS k)[i]'h) := by
    intro i h
    have hm : (fldS k)[i]'h ∈ fldN.getD k [] := by
      have : (fldS k)[i]'h ∈ (fldS k).data.toList := by
        simp only [Array.mem_toList_iff]
        exact Array.getElem_mem _
      simpa [fldS] using this
    refine ⟨?_, hm, ?_⟩
    · exact fld_ascii k _ hm
    · have hi : i < (fldN.getD k []).length := by
        have h2 : i < (fldN.getD k []).toArray.size := h
        simpa using h2
      rw [List.getElem?_eq_getElem hi]
      rfl
  have c := hF.cell k hk
  have c0 : w.cell? ⟨b, 0, none⟩ = some (.int .i64 (k : Int)) := by rw [← hmk]; exact hM 0 _ rfl
  have j1 : (k : Int) < 16 := by omega
  have C74 : Hid (∀ (r : Nat) W, r < 128 → Below w.heap.size w W → Calls Tryz.prog 125 #[.pointer (some ⟨b, 0, none⟩), .int .i32 (r : Int)] W fun e w' => e = .returned (.bool (inH k m.h r)) ∧ Below W.heap.size W w') := hid (fun r W hr hW => by
    have hm := hM.under hW
    exact has74_any (hF.below hW) hk hr (by rw [← hmk]; exact hm 0 _ rfl) (hm 9 _ rfl))
  have HH1 := hid H1
  have HH2 := hid H2
  have H128 := hid h128
  obtain ⟨IT, hIT⟩ : ∃ IT, Hid (IT = w.heap.size) := ⟨_, hid rfl⟩
  have EF : Hid (∀ (p : Nat) (r : UInt8), (fldN.getD k [])[p]? = some r → inH k m.h r.toNat = true → may r.toNat = false → (∀ (q : Nat) (r' : UInt8), q < p → (fldN.getD k [])[q]? = some r' → (inH k m.h r'.toNat && !may r'.toNat) = false) → fldE k m.h may zero = refN r.toNat) := hid (fun p r h1 h2 h3 h4 => fldE_no h1 (by rw [h2, h3]; rfl) h4)
  have EA : Hid ((∀ (q : Nat) (r' : UInt8), (fldN.getD k [])[q]? = some r' → (inH k m.h r'.toNat && !may r'.toNat) = false) → fldE k m.h may zero = if allF.data.toList.all (fun r => inH k m.h r.toNat || zero r.toNat) then 0 else 116) := hid (fun h => fldE_all h)
  have LEN : Hid ((fldS k).size = (fldN.getD k []).length) := hid (by show (fldN.getD k []).toArray.size = _; simp)
  generalize fldE k m.h may zero = rE at EF EA ⊢
  have CR : Hid (∀ (r : UInt8) (W : World), r ∈ allF.data.toList → Calls Tryz.prog 127 #[.int .i32 (r.toNat : Int)] W fun e w' => e = .returned (.int .i64 (refN r.toNat)) ∧ w' = W) := hid (fun r W h => refusal_any r h)
  clear hF hM H1 H2 hmk h128
  go_enter Tryz.func94, Tryz.ntmps94
  go_wp2_with fail
  rw [← hIT.out]
  have I0 : Hid ((w.iter (fldS k) 0).heap[IT]? = some (.stringIter (fldS k) 0) ∧ Below w.heap.size w (w.iter (fldS k) 0)) := hid ⟨by rw [hIT.out]; exact World.iter_heap w _ _, iter_below w _⟩
  generalize w.iter (fldS k) 0 = w1 at I0 ⊢
  go_loopw [14] (fun u wr => ∃ p : Nat, Hid (wr.heap[IT]? = some (.stringIter (fldS k) p) ∧ Below w.heap.size w wr ∧ p ≤ (fldS k).size) ∧ Hid (∀ (q : Nat) (r' : UInt8), q < p → (fldN.getD k [])[q]? = some r' → (inH k m.h r'.toNat && !may r'.toNat) = false)) (fun u wr => (fldS k).size - wr.iterPos IT)
  case atStart => exact ⟨0, hid ⟨I0.out.1, I0.out.2, by omega⟩, hid (fun q r' hq => absurd hq (by omega))⟩
  case round =>
    clear I0 c0 c
    obtain ⟨p, HP, HB4⟩ := hrel
    by_cases hlt : p < (fldS k).size
    · have hn := run_next_ascii_at (P := Tryz.prog) wr IT (fldS k) p 0 HP.out.1 hlt (H128.out p hlt).1
      have hb1 := hid (iterAt_below (k := IT) (s := fldS k) (p := p + 1) HP.out.2.1 (by rw [hIT.out]; exact Nat.le_refl _))
      have hi1 := hid (iterAt_heap wr IT (fldS k) p (p + 1) HP.out.1)
      have hmm := hid (H128.out p hlt)
      have hm0 : Hid (wr.iterPos IT = p) := hid (iterPos_of HP.out.1)
      go_wp2_with fail
      generalize (fldS k)[p] = r8 at hmm ⊢
      clear hn
      generalize wr.iterAt IT (fldS k) (p + 1) = w2 at hb1 hi1 ⊢
      cases hB : inH k m.h r8.toNat with
      | true =>
        refine (C74.out _ _ hmm.out.1 hb1.out).mono ?_
        rintro e w3 ⟨rfl, hb3⟩
        rw [hB]
        have HB3 := hid hb3
        have hb13 := hid (b2 hb1.out hb3)
        have HB := hid hB
        clear hb3 hB
        go_wp2_with fail
        refine (HH1.out p r8 hmm.out.2.2 HB.out HB4.out w3 hb13.out).mono ?_
        rintro e w4 ⟨rfl, hb4⟩
        cases hM : may r8.toNat with
        | false =>
          have F := hid (EF.out p r8 hmm.out.2.2 HB.out hM HB4.out)
          have hb14 := hid (b2 hb13.out hb4)
          clear hM hb4
          go_wp2_with fail
          refine (CR.out r8 _ (fld_in k r8 hmm.out.2.1)).mono ?_
          rintro e w5 ⟨rfl, rfl⟩
          go_wp2
          go_ret
          exact ⟨by rw [F.out]; rfl, hb14.out⟩
        | true =>
        have HM := hid hM
        clear hM
        have hi4 : Hid (w4.heap[IT]? = some (.stringIter (fldS k) (p + 1))) := hid (by
          have hlt2 := (Array.getElem?_eq_some_iff.1 hi1.out).1
          rw [hb4.block _ (Nat.lt_of_lt_of_le hlt2 HB3.out.size), HB3.out.block _ hlt2]
          exact hi1.out)
        have hb14 := hid (b2 hb13.out hb4)
        clear hb4
        go_wp2_with fail
        go_roundw
        case rel => exact ⟨p + 1, hid ⟨hi4.out, hb14.out, hlt⟩, hid (fun q r' hq hr => by rcases Nat.lt_succ_iff_lt_or_eq.1 hq with h | h; exact HB4.out q r' h hr; subst h; have := Option.some.inj (hmm.out.2.2.symm.trans hr); subst this; rw [HM.out]; simp)⟩
        case measure => rw [hm0.out, iterPos_of hi4.out]; omega
      | false =>
        refine (C74.out _ _ hmm.out.1 hb1.out).mono ?_
        rintro e w3 ⟨rfl, hb3⟩
        rw [hB]
        have hi4 : Hid (w3.heap[IT]? = some (.stringIter (fldS k) (p + 1))) := hid (by
          have hlt2 := (Array.getElem?_eq_some_iff.1 hi1.out).1
          rw [hb3.block _ hlt2]
          exact hi1.out)
        have hb13 := hid (b2 hb1.out hb3)
        have HB := hid hB
        clear hb3 hB
        go_wp2_with fail
        go_roundw
        case rel => exact ⟨p + 1, hid ⟨hi4.out, hb13.out, hlt⟩, hid (fun q r' hq hr => by rcases Nat.lt_succ_iff_lt_or_eq.1 hq with h | h; exact HB4.out q r' h hr; subst h; have := Option.some.inj (hmm.out.2.2.symm.trans hr); subst this; rw [HB.out]; rfl)⟩
        case measure => rw [hm0.out, iterPos_of hi4.out]; omega
    · have hn := run_next_end_at (P := Tryz.prog) wr IT (fldS k) p 0 HP.out.1 hlt
      have FA := hid (EA.out (fun q r' hr => HB4.out q r' (by have := (List.getElem?_eq_some_iff.1 hr).1; have := LEN.out; omega) hr))
      clear EF EA HB4
      obtain ⟨I2, hI2⟩ : ∃ I2, Hid (I2 = wr.heap.size) := ⟨_, hid rfl⟩
      go_wp2_with fail
      rw [show ({ data := #[86, 75, 67, 78, 76, 81, 72, 79, 82, 69, 71] } : ByteArray) = allF from rfl, ← hI2.out]
      have J0 : Hid ((wr.iter allF 0).heap[I2]? = some (.stringIter allF 0) ∧ Below w.heap.size w (wr.iter allF 0)) := hid ⟨by rw [hI2.out]; exact World.iter_heap wr _ _, b2 HP.out.2.1 (iter_below wr _)⟩
      have hI2w : Hid (w.heap.size ≤ I2) := hid (by rw [hI2.out]; exact HP.out.2.1.size)
      generalize wr.iter allF 0 = w2 at J0 ⊢
      clear hn HP hlt hI2
      go_loopw [29] (fun u wr => ∃ p : Nat, Hid (wr.heap[I2]? = some (.stringIter allF p) ∧ Below w.heap.size w wr ∧ p ≤ allF.size) ∧ Hid (∀ (q : Nat) (r' : UInt8), q < p → allF.data.toList[q]? = some r' → (inH k m.h r'.toNat || zero r'.toNat) = true)) (fun u wr => allF.size - wr.iterPos I2)
      case atStart => exact ⟨0, hid ⟨J0.out.1, J0.out.2, by omega⟩, hid (fun q r' hq => absurd hq (by omega))⟩
      case round =>
        clear J0
        obtain ⟨p, HP, HB4⟩ := hrel
        by_cases hlt : p < allF.size
        · have h8 := all_ascii p hlt
          have hn := run_next_ascii_at (P := Tryz.prog) wr I2 allF p 0 HP.out.1 hlt h8.1
          have hb1 := hid (iterAt_below (k := I2) (s := allF) (p := p + 1) HP.out.2.1 hI2w.out)
          have hi1 := hid (iterAt_heap wr I2 allF p (p + 1) HP.out.1)
          have hmm := hid h8
          have hat : Hid (allF.data.toList[p]? = some (allF[p]'hlt)) := hid (by rw [Array.getElem?_toList]; exact Array.getElem?_eq_getElem (xs := allF.data) hlt)
          have hm0 : Hid (wr.iterPos I2 = p) := hid (iterPos_of HP.out.1)
          clear h8
          go_wp2_with fail
          generalize allF[p] = r8 at hmm hat ⊢
          clear hn
          generalize wr.iterAt I2 allF (p + 1) = w2 at hb1 hi1 ⊢
          cases hB : inH k m.h r8.toNat with
          | false =>
            refine (C74.out _ _ hmm.out.1 hb1.out).mono ?_
            rintro e w3 ⟨rfl, hb3⟩
            rw [hB]
            have HB3 := hid hb3
            have hb13 := hid (b2 hb1.out hb3)
            have HB := hid hB
            clear hb3 hB
            go_wp2_with fail
            refine (HH2.out r8 hmm.out.2 HB.out w3 hb13.out).mono ?_
            rintro e w4 ⟨rfl, hb4⟩
            cases hZ : zero r8.toNat with
            | false =>
              have F : Hid (rE = 116) := hid (by rw [FA.out, if_neg]; intro hh; have := List.all_eq_true.1 hh r8 hmm.out.2; rw [HB.out, hZ] at this; cases this)
              have hb14 := hid (b2 hb13.out hb4)
              clear hZ hb4
              go_wp2
              go_ret
              exact ⟨by rw [F.out]; rfl, hb14.out⟩
            | true =>
            have HZ := hid hZ
            clear hZ
            have hi4 : Hid (w4.heap[I2]? = some (.stringIter allF (p + 1))) := hid (by
              have hlt2 := (Array.getElem?_eq_some_iff.1 hi1.out).1
              rw [hb4.block _ (Nat.lt_of_lt_of_le hlt2 HB3.out.size), HB3.out.block _ hlt2]
              exact hi1.out)
            have hb14 := hid (b2 hb13.out hb4)
            clear hb4
            go_wp2_with fail
            go_roundw
            case rel => exact ⟨p + 1, hid ⟨hi4.out, hb14.out, hlt⟩, hid (fun q r' hq hr => by rcases Nat.lt_succ_iff_lt_or_eq.1 hq with h | h; exact HB4.out q r' h hr; subst h; have := Option.some.inj (hat.out.symm.trans hr); subst this; rw [HZ.out]; simp)⟩
            case measure => rw [hm0.out, iterPos_of hi4.out]; omega
          | true =>
            refine (C74.out _ _ hmm.out.1 hb1.out).mono ?_
            rintro e w3 ⟨rfl, hb3⟩
            rw [hB]
            have hi4 : Hid (w3.heap[I2]? = some (.stringIter allF (p + 1))) := hid (by
              have hlt2 := (Array.getElem?_eq_some_iff.1 hi1.out).1
              rw [hb3.block _ hlt2]
              exact hi1.out)
            have hb13 := hid (b2 hb1.out hb3)
            have HB := hid hB
            clear hb3 hB
            go_wp2_with fail
            go_roundw
            case rel => exact ⟨p + 1, hid ⟨hi4.out, hb13.out, hlt⟩, hid (fun q r' hq hr => by rcases Nat.lt_succ_iff_lt_or_eq.1 hq with h | h; exact HB4.out q r' h hr; subst h; have := Option.some.inj (hat.out.symm.trans hr); subst this; rw [HB.out]; rfl)⟩
            case measure => rw [hm0.out, iterPos_of hi4.out]; omega
        · have hn := run_next_end_at (P := Tryz.prog) wr I2 allF p 0 HP.out.1 hlt
          have F : Hid (rE = 0) := hid (by
            rw [FA.out, if_pos]
            rw [List.all_eq_true]
            intro r hr
            obtain ⟨q, hq⟩ := List.getElem?_of_mem hr
            have h1 := (List.getElem?_eq_some_iff.1 hq).1
            exact HB4.out q r (by have h2 : allF.data.toList.length = allF.size := by rw [Array.length_toList]; rfl
                                  omega) hq)
          go_wp2
          go_ret
          exact ⟨by rw [F.out]; rfl, HP.out.2.1⟩
end Go.Proofs.YtdhkdniddjnigaaGreatDoor

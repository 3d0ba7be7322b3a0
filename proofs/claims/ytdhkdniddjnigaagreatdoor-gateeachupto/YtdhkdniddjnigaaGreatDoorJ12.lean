import Derived.Test.YtdhkdniddjnigaaGreatDoorJ11
import Derived.Deep.MidRow
import Derived.Great.BuildSlice
namespace Go.Proofs.YtdhkdniddjnigaaGreatDoor
open Go.RowKit Go.Lib
set_option linter.unusedVariables false

/-- The error of a letter. -/
def refN (r : Nat) : Int := if r = 86 then 113 else if r = 75 ∨ r = 67 ∨ r = 78 ∨ r = 76 ∨ r = 81 then 114 else 115
theorem refusal_any {w : World} (r : UInt8) (h : r ∈ allF.data.toList) : Calls Tryz.prog 127 #[.int .i32 (r.toNat : Int)] w fun e w' => e = .returned (.int .i64 (refN r.toNat)) ∧ w' = w := by
  have h : r ∈ [(86 : UInt8), 75, 67, 78, 76, 81, 72, 79, 82, 69, 71] := h
  simp only [List.mem_cons, List.not_mem_nil, or_false] at h
  rcases h with rfl | rfl | rfl | rfl | rfl | rfl | rfl | rfl | rfl | rfl | rfl
  all_goals
    go_enter Tryz.func127, Tryz.ntmps127
    go_wp2
    go_ret
    exact ⟨rfl, rfl⟩
theorem fld_in (k : Nat) (r : UInt8) (h : r ∈ fldN.getD k []) : r ∈ allF.data.toList := by
  have key : ∀ l ∈ fldN, ∀ r ∈ l, r ∈ allF.data.toList := by decide
  by_cases hk : k < fldN.length
  · rw [List.getD, List.getElem?_eq_getElem hk] at h
    exact key _ (List.getElem_mem hk) r h
  · rw [List.getD, List.getElem?_eq_none (by omega)] at h
    cases h
/-- What checkFields tells. -/
def fldE (k : Nat) (h : Bool) (may zero : Nat → Bool) : Int :=
  match (fldN.getD k []).find? (fun r => inH k h r.toNat && !may r.toNat) with
  | some r => refN r.toNat
  | none => if allF.data.toList.all (fun r => inH k h r.toNat || zero r.toNat) then 0 else 116
theorem fldE_no {k : Nat} {h : Bool} {may zero : Nat → Bool} {p : Nat} {r : UInt8} (h1 : (fldN.getD k [])[p]? = some r) (h2 : (inH k h r.toNat && !may r.toNat) = true)
    (h3 : ∀ (q : Nat) (r' : UInt8), q < p → (fldN.getD k [])[q]? = some r' → (inH k h r'.toNat && !may r'.toNat) = false) : fldE k h may zero = refN r.toNat := by
  have hf : (fldN.getD k []).find? (fun r => inH k h r.toNat && !may r.toNat) = some r := by
    rw [List.find?_eq_some_iff_getElem]
    obtain ⟨hp, e⟩ := List.getElem?_eq_some_iff.1 h1
    refine ⟨h2, p, hp, e, fun j hj => ?_⟩
    rw [h3 j _ hj (List.getElem?_eq_getElem (by omega))]
    rfl
  unfold fldE
  rw [hf]
theorem fldE_all {k : Nat} {h : Bool} {may zero : Nat → Bool} (h3 : ∀ (q : Nat) (r' : UInt8), (fldN.getD k [])[q]? = some r' → (inH k h r'.toNat && !may r'.toNat) = false) : fldE k h may zero = if allF.data.toList.all (fun r => inH k h r.toNat || zero r.toNat) then 0 else 116 := by
  have hf : (fldN.getD k []).find? (fun r => inH k h r.toNat && !may r.toNat) = none := by
    rw [List.find?_eq_none]
    intro r hr
    obtain ⟨q, hq⟩ := List.getElem?_of_mem hr
    rw [h3 q r hq]
    simp
  unfold fldE
  rw [hf]
set_option maxHeartbeats 1600000 in
set_option maxRecDepth 100000 in
theorem fields_any (may zero : Nat → Bool) {w : World} {b k : Nat} {m : Ms} (hF : Fld w) (hM : MsAt w b m) (hk : k < 16) (hmk : m.k = k)
    (H1 : ∀ (p : Nat) (r : UInt8), (fldN.getD k [])[p]? = some r → inH k m.h r.toNat = true → (∀ (q : Nat) (r' : UInt8), q < p → (fldN.getD k [])[q]? = some r' → (inH k m.h r'.toNat && !may r'.toNat) = false) → ∀ W, Below w.heap.size w W → Calls Tryz.prog 126 #[.pointer (some ⟨b, 0, none⟩), .int .i32 (r.toNat : Int)] W fun e w' => e = .returned (.bool (may r.toNat)) ∧ Below W.heap.size W w')
    (H2 : ∀ r ∈ allF.data.toList, inH k m.h r.toNat = false → ∀ W, Below w.heap.size w W → Calls Tryz.prog 128 #[.pointer (some ⟨b, 0, none⟩), .int .i32 (r.toNat : Int)] W fun e w' => e = .returned (.bool (zero r.toNat)) ∧ Below W.heap.size W w') :
    Calls Tryz.prog 94 #[.pointer (some ⟨b, 0, none⟩)] w fun e w' => e = .returned (.int .i64 (fldE k m.h may zero)) ∧ Below w.heap.size w w' := by
  have h128 : ∀ (i : Nat) (h : i < (fldS k).size), ((fldS k)[i]'h).toNat < 128 ∧ (fldS k)[i]'h ∈ fldN.getD k [] ∧ (fldN.getD k [])[i]? = some ((fldS k)[i]'h) := by
    intro i h
    have hm : (fldS k)[i]'h ∈ fldN.getD k [] := by
      have : (fldS k)[i]'h ∈ (fldS k).data.toList := by
        simp only [Array.mem_toList_iff]
        exact Array.getElem_mem _
      simpa [fldS] using this
    refine ⟨?_, hm, ?_⟩
    · exact fld_ascii k _ hm
    · have hi : i < (fldN.getD k []).length := by
        have h2 : i < (fldN.getD k []).toArray.size := h
        simpa using h2
      rw [List.getElem?_eq_getElem hi]
      rfl
  have c := hF.cell k hk
  have c0 : w.cell? ⟨b, 0, none⟩ = some (.int .i64 (k : Int)) := by rw [← hmk]; exact hM 0 _ rfl
  have j1 : (k : Int) < 16 := by omega
  have C74 : Hid (∀ (r : Nat) W, r < 128 → Below w.heap.size w W → Calls Tryz.prog 125 #[.pointer (some ⟨b, 0, none⟩), .int .i32 (r : Int)] W fun e w' => e = .returned (.bool (inH k m.h r)) ∧ Below W.heap.size W w') := hid (fun r W hr hW => by
    have hm := hM.under hW
    exact has74_any (hF.below hW) hk hr (by rw [← hmk]; exact hm 0 _ rfl) (hm 9 _ rfl))
  have HH1 := hid H1
  have HH2 := hid H2
  have H128 := hid h128
  obtain ⟨IT, hIT⟩ : ∃ IT, Hid (IT = w.heap.size) := ⟨_, hid rfl⟩
  have EF : Hid (∀ (p : Nat) (r : UInt8), (fldN.getD k [])[p]? = some r → inH k m.h r.toNat = true → may r.toNat = false → (∀ (q : Nat) (r' : UInt8), q < p → (fldN.getD k [])[q]? = some r' → (inH k m.h r'.toNat && !may r'.toNat) = false) → fldE k m.h may zero = refN r.toNat) := hid (fun p r h1 h2 h3 h4 => fldE_no h1 (by rw [h2, h3]; rfl) h4)
  have EA : Hid ((∀ (q : Nat) (r' : UInt8), (fldN.getD k [])[q]? = some r' → (inH k m.h r'.toNat && !may r'.toNat) = false) → fldE k m.h may zero = if allF.data.toList.all (fun r => inH k m.h r.toNat || zero r.toNat) then 0 else 116) := hid (fun h => fldE_all h)
  have LEN : Hid ((fldS k).size = (fldN.getD k []).length) := hid (by show (fldN.getD k []).toArray.size = _; simp)
  generalize fldE k m.h may zero = rE at EF EA ⊢
  have CR : Hid (∀ (r : UInt8) (W : World), r ∈ allF.data.toList → Calls Tryz.prog 127 #[.int .i32 (r.toNat : Int)] W fun e w' => e = .returned (.int .i64 (refN r.toNat)) ∧ w' = W) := hid (fun r W h => refusal_any r h)
  clear hF hM H1 H2 hmk h128
  go_enter Tryz.func94, Tryz.ntmps94
  go_wp2_with fail
  rw [← hIT.out]
  have I0 : Hid ((w.iter (fldS k) 0).heap[IT]? = some (.stringIter (fldS k) 0) ∧ Below w.heap.size w (w.iter (fldS k) 0)) := hid ⟨by rw [hIT.out]; exact World.iter_heap w _ _, iter_below w _⟩
  generalize w.iter (fldS k) 0 = w1 at I0 ⊢
  go_loopw [14] (fun u wr => ∃ p : Nat, Hid (wr.heap[IT]? = some (.stringIter (fldS k) p) ∧ Below w.heap.size w wr ∧ p ≤ (fldS k).size) ∧ Hid (∀ (q : Nat) (r' : UInt8), q < p → (fldN.getD k [])[q]? = some r' → (inH k m.h r'.toNat && !may r'.toNat) = false)) (fun u wr => (fldS k).size - wr.iterPos IT)
  case atStart => exact ⟨0, hid ⟨I0.out.1, I0.out.2, by omega⟩, hid (fun q r' hq => absurd hq (by omega))⟩
  case round =>
    clear I0 c0 c
    obtain ⟨p, HP, HB4⟩ := hrel
    by_cases hlt : p < (fldS k).size
    · have hn := run_next_ascii_at (P := Tryz.prog) wr IT (fldS k) p 0 HP.out.1 hlt (H128.out p hlt).1
      have hb1 := hid (iterAt_below (k := IT) (s := fldS k) (p := p + 1) HP.out.2.1 (by rw [hIT.out]; exact Nat.le_refl _))
      have hi1 := hid (iterAt_heap wr IT (fldS k) p (p + 1) HP.out.1)
      have hmm := hid (H128.out p hlt)
      have hm0 : Hid (wr.iterPos IT = p) := hid (iterPos_of HP.out.1)
      go_wp2_with fail
      generalize (fldS k)[p] = r8 at hmm ⊢
      clear hn
      generalize wr.iterAt IT (fldS k) (p + 1) = w2 at hb1 hi1 ⊢
      cases hB : inH k m.h r8.toNat with
      | true =>
        refine (C74.out _ _ hmm.out.1 hb1.out).mono ?_
        rintro e w3 ⟨rfl, hb3⟩
        rw [hB]
        have HB3 := hid hb3
        have hb13 := hid (b2 hb1.out hb3)
        have HB := hid hB
        clear hb3 hB
        go_wp2_with fail
        refine (HH1.out p r8 hmm.out.2.2 HB.out HB4.out w3 hb13.out).mono ?_
        rintro e w4 ⟨rfl, hb4⟩
        cases hM : may r8.toNat with
        | false =>
          have F := hid (EF.out p r8 hmm.out.2.2 HB.out hM HB4.out)
          have hb14 := hid (b2 hb13.out hb4)
          clear hM hb4
          go_wp2_with fail
          refine (CR.out r8 _ (fld_in k r8 hmm.out.2.1)).mono ?_
          rintro e w5 ⟨rfl, rfl⟩
          go_wp2
          go_ret
          exact ⟨by rw [F.out]; rfl, hb14.out⟩
        | true =>
        have HM := hid hM
        clear hM
        have hi4 : Hid (w4.heap[IT]? = some (.stringIter (fldS k) (p + 1))) := hid (by
          have hlt2 := (Array.getElem?_eq_some_iff.1 hi1.out).1
          rw [hb4.block _ (Nat.lt_of_lt_of_le hlt2 HB3.out.size), HB3.out.block _ hlt2]
          exact hi1.out)
        have hb14 := hid (b2 hb13.out hb4)
        clear hb4
        go_wp2_with fail
        go_roundw
        case rel => exact ⟨p + 1, hid ⟨hi4.out, hb14.out, hlt⟩, hid (fun q r' hq hr => by rcases Nat.lt_succ_iff_lt_or_eq.1 hq with h | h; exact HB4.out q r' h hr; subst h; have := Option.some.inj (hmm.out.2.2.symm.trans hr); subst this; rw [HM.out]; simp)⟩
        case measure => rw [hm0.out, iterPos_of hi4.out]; omega
      | false =>
        refine (C74.out _ _ hmm.out.1 hb1.out).mono ?_
        rintro e w3 ⟨rfl, hb3⟩
        rw [hB]
        have hi4 : Hid (w3.heap[IT]? = some (.stringIter (fldS k) (p + 1))) := hid (by
          have hlt2 := (Array.getElem?_eq_some_iff.1 hi1.out).1
          rw [hb3.block _ hlt2]
          exact hi1.out)
        have hb13 := hid (b2 hb1.out hb3)
        have HB := hid hB
        clear hb3 hB
        go_wp2_with fail
        go_roundw
        case rel => exact ⟨p + 1, hid ⟨hi4.out, hb13.out, hlt⟩, hid (fun q r' hq hr => by rcases Nat.lt_succ_iff_lt_or_eq.1 hq with h | h; exact HB4.out q r' h hr; subst h; have := Option.some.inj (hmm.out.2.2.symm.trans hr); subst this; rw [HB.out]; rfl)⟩
        case measure => rw [hm0.out, iterPos_of hi4.out]; omega
    · have hn := run_next_end_at (P := Tryz.prog) wr IT (fldS k) p 0 HP.out.1 hlt
      have FA := hid (EA.out (fun q r' hr => HB4.out q r' (by have := (List.getElem?_eq_some_iff.1 hr).1; have := LEN.out; omega) hr))
      clear EF EA HB4
      obtain ⟨I2, hI2⟩ : ∃ I2, Hid (I2 = wr.heap.size) := ⟨_, hid rfl⟩
      go_wp2_with fail
      rw [show ({ data := #[86, 75, 67, 78, 76, 81, 72, 79, 82, 69, 71] } : ByteArray) = allF from rfl, ← hI2.out]
      have J0 : Hid ((wr.iter allF 0).heap[I2]? = some (.stringIter allF 0) ∧ Below w.heap.size w (wr.iter allF 0)) := hid ⟨by rw [hI2.out]; exact World.iter_heap wr _ _, b2 HP.out.2.1 (iter_below wr _)⟩
      have hI2w : Hid (w.heap.size ≤ I2) := hid (by rw [hI2.out]; exact HP.out.2.1.size)
      generalize wr.iter allF 0 = w2 at J0 ⊢
      clear hn HP hlt hI2
      go_loopw [29] (fun u wr => ∃ p : Nat, Hid (wr.heap[I2]? = some (.stringIter allF p) ∧ Below w.heap.size w wr ∧ p ≤ allF.size) ∧ Hid (∀ (q : Nat) (r' : UInt8), q < p → allF.data.toList[q]? = some r' → (inH k m.h r'.toNat || zero r'.toNat) = true)) (fun u wr => allF.size - wr.iterPos I2)
      case atStart => exact ⟨0, hid ⟨J0.out.1, J0.out.2, by omega⟩, hid (fun q r' hq => absurd hq (by omega))⟩
      case round =>
        clear J0
        obtain ⟨p, HP, HB4⟩ := hrel
        by_cases hlt : p < allF.size
        · have h8 := all_ascii p hlt
          have hn := run_next_ascii_at (P := Tryz.prog) wr I2 allF p 0 HP.out.1 hlt h8.1
          have hb1 := hid (iterAt_below (k := I2) (s := allF) (p := p + 1) HP.out.2.1 hI2w.out)
          have hi1 := hid (iterAt_heap wr I2 allF p (p + 1) HP.out.1)
          have hmm := hid h8
          have hat : Hid (allF.data.toList[p]? = some (allF[p]'hlt)) := hid (by rw [Array.getElem?_toList]; exact Array.getElem?_eq_getElem (xs := allF.data) hlt)
          have hm0 : Hid (wr.iterPos I2 = p) := hid (iterPos_of HP.out.1)
          clear h8
          go_wp2_with fail
          generalize allF[p] = r8 at hmm hat ⊢
          clear hn
          generalize wr.iterAt I2 allF (p + 1) = w2 at hb1 hi1 ⊢
          cases hB : inH k m.h r8.toNat with
          | false =>
            refine (C74.out _ _ hmm.out.1 hb1.out).mono ?_
            rintro e w3 ⟨rfl, hb3⟩
            rw [hB]
            have HB3 := hid hb3
            have hb13 := hid (b2 hb1.out hb3)
            have HB := hid hB
            clear hb3 hB
            go_wp2_with fail
            refine (HH2.out r8 hmm.out.2 HB.out w3 hb13.out).mono ?_
            rintro e w4 ⟨rfl, hb4⟩
            cases hZ : zero r8.toNat with
            | false =>
              have F : Hid (rE = 116) := hid (by rw [FA.out, if_neg]; intro hh; have := List.all_eq_true.1 hh r8 hmm.out.2; rw [HB.out, hZ] at this; cases this)
              have hb14 := hid (b2 hb13.out hb4)
              clear hZ hb4
              go_wp2
              go_ret
              exact ⟨by rw [F.out]; rfl, hb14.out⟩
            | true =>
            have HZ := hid hZ
            clear hZ
            have hi4 : Hid (w4.heap[I2]? = some (.stringIter allF (p + 1))) := hid (by
              have hlt2 := (Array.getElem?_eq_some_iff.1 hi1.out).1
              rw [hb4.block _ (Nat.lt_of_lt_of_le hlt2 HB3.out.size), HB3.out.block _ hlt2]
              exact hi1.out)
            have hb14 := hid (b2 hb13.out hb4)
            clear hb4
            go_wp2_with fail
            go_roundw
            case rel => exact ⟨p + 1, hid ⟨hi4.out, hb14.out, hlt⟩, hid (fun q r' hq hr => by rcases Nat.lt_succ_iff_lt_or_eq.1 hq with h | h; exact HB4.out q r' h hr; subst h; have := Option.some.inj (hat.out.symm.trans hr); subst this; rw [HZ.out]; simp)⟩
            case measure => rw [hm0.out, iterPos_of hi4.out]; omega
          | true =>
            refine (C74.out _ _ hmm.out.1 hb1.out).mono ?_
            rintro e w3 ⟨rfl, hb3⟩
            rw [hB]
            have hi4 : Hid (w3.heap[I2]? = some (.stringIter allF (p + 1))) := hid (by
              have hlt2 := (Array.getElem?_eq_some_iff.1 hi1.out).1
              rw [hb3.block _ hlt2]
              exact hi1.out)
            have hb13 := hid (b2 hb1.out hb3)
            have HB := hid hB
            clear hb3 hB
            go_wp2_with fail
            go_roundw
            case rel => exact ⟨p + 1, hid ⟨hi4.out, hb13.out, hlt⟩, hid (fun q r' hq hr => by rcases Nat.lt_succ_iff_lt_or_eq.1 hq with h | h; exact HB4.out q r' h hr; subst h; have := Option.some.inj (hat.out.symm.trans hr); subst this; rw [HB.out]; rfl)⟩
            case measure => rw [hm0.out, iterPos_of hi4.out]; omega
        · have hn := run_next_end_at (P := Tryz.prog) wr I2 allF p 0 HP.out.1 hlt
          have F : Hid (rE = 0) := hid (by
            rw [FA.out, if_pos]
            rw [List.all_eq_true]
            intro r hr
            obtain ⟨q, hq⟩ := List.getElem?_of_mem hr
            have h1 := (List.getElem?_eq_some_iff.1 hq).1
            exact HB4.out q r (by have h2 : allF.data.toList.length = allF.size := by rw [Array.length_toList]; rfl
                                  omega) hq)
          go_wp2
          go_ret
          exact ⟨by rw [F.out]; rfl, HP.out.2.1⟩
end Go.Proofs.YtdhkdniddjnigaaGreatDoor

namespace Go.Proofs.YtdhkdniddjnigaaGreatDoor
open Go.RowKit
set_option linter.unusedVariables false

theorem mayH {w : World} {b : Nat} : Calls Tryz.prog 126 #[.pointer (some ⟨b, 0, none⟩), .int .i32 72] w fun e w' => e = .returned (.bool true) ∧ w' = w := by
  go_enter Tryz.func126, Tryz.ntmps126
  go_wp2
  go_ret
  exact ⟨rfl, rfl⟩
set_option maxRecDepth 1000000 in
theorem mayE {w : World} {b : Nat} {m : Ms} {li : List ByteArray} {le lx : List Ent} {ls : List Sh} (hT : Tab w) (h : MsAt w b m) (hl : Ml w m li le ls lx) (hn : 1 ≤ m.n ∧ m.n ≤ 1099511627776) : Calls Tryz.prog 126 #[.pointer (some ⟨b, 0, none⟩), .int .i32 69] w fun e w' => e = .returned (.bool (m.eB le)) ∧ Below w.heap.size w w' := by
  have C := hid (ent107 hT h hl hn)
  generalize m.eB le = z at C ⊢
  clear h hl hT hn
  go_enter Tryz.func126, Tryz.ntmps126
  go_wp2_with fail
  refine C.out.mono ?_
  rintro e w1 ⟨rfl, B1⟩
  have B1 := hid B1
  go_wp2
  go_ret
  exact ⟨rfl, B1.out⟩
/-- May a field be? -/
def Ms.may (m : Ms) (li : List ByteArray) (le : List Ent) (ls : List Sh) (lx : List Ent) (r : Nat) : Bool :=
  if r = 86 then inR m.v 0 1099511627776 else if r = 75 then inR m.n (lstK m.k) 1099511627776 else if r = 67 then inR m.c 0 1099511627776
  else if r = 78 then inR m.o 0 m.v else if r = 76 then inR m.l 1 1099511627776 else if r = 81 then inR m.q 1 1099511627776
  else if r = 79 then m.oB else if r = 82 then chkX m.rc m.rn li == 0 else if r = 69 then m.eB le else if r = 71 then cgB m.cf m.cb ls lx else true
/-- Does nothing stand in a field? -/
def Ms.nil (m : Ms) (r : Nat) : Bool :=
  if r = 86 then m.v == 0 else if r = 75 then m.n == 0 else if r = 67 then m.c == 0 else if r = 78 then m.o == 0 else if r = 76 then m.l == 0
  else if r = 81 then m.q == 0 else if r = 72 then !m.h else if r = 79 then m.zO else if r = 82 then m.zR else if r = 69 then (m.el : Int) == 0 else m.zG
theorem only_four : ∀ k < 16, ∀ p < 6, (fldN.getD k [])[p]? = some 69 → k = 4 ∧ p = 3 := by decide
theorem fld_len : ∀ k < 16, (fldN.getD k []).length < 6 := by decide
theorem k_four (h : Bool) : inH 4 h 75 = true := by cases h <;> rfl
set_option maxRecDepth 1000000 in
/-- checkFields of any message. -/
theorem fields34 {w : World} {b k : Nat} {m : Ms} {li : List ByteArray} {le lx : List Ent} {ls : List Sh} (hT : Tab w) (hF : Fld w) (hM : MsAt w b m) (hl : Ml w m li le ls lx) (hk : k < 16) (hmk : m.k = k) :
    Calls Tryz.prog 94 #[.pointer (some ⟨b, 0, none⟩)] w fun e w' => e = .returned (.int .i64 (fldE k m.h (m.may li le ls lx) m.nil)) ∧ Below w.heap.size w w' := by
  have qw : ∀ (W : World) (f : Nat) (xs : Array Value) (v : Value), Calls Tryz.prog f xs W (fun e w' => e = .returned v ∧ w' = W) → Calls Tryz.prog f xs W (fun e w' => e = .returned v ∧ Below W.heap.size W w') := fun W f xs v h => h.mono fun e w' ⟨h1, h2⟩ => ⟨h1, by rw [h2]; exact Below.refl _ _⟩
  refine fields_any (m.may li le ls lx) m.nil hF hM hk hmk ?_ ?_
  · intro p r hr hin hbef W hW
    have hm := hM.under hW
    have hL := hl.later hW
    have hin2 := fld_in k r (List.mem_of_getElem? hr)
    have hin2 : r ∈ [(86 : UInt8), 75, 67, 78, 76, 81, 72, 79, 82, 69, 71] := hin2
    simp only [List.mem_cons, List.not_mem_nil, or_false] at hin2
    rcases hin2 with rfl | rfl | rfl | rfl | rfl | rfl | rfl | rfl | rfl | rfl | rfl
    · exact qw _ _ _ _ (mayV hm)
    · exact mayK hm
    · exact qw _ _ _ _ (mayC hm)
    · exact mayN hm
    · exact qw _ _ _ _ (mayL hm)
    · exact qw _ _ _ _ (mayQ hm)
    · exact qw _ _ _ _ mayH
    · exact mayOO (hT.below hW) hm
    · exact mayR hm hL
    · have hp : p < 6 := Nat.lt_trans (List.getElem?_eq_some_iff.1 hr).1 (fld_len k hk)
      obtain ⟨rfl, rfl⟩ := only_four k hk p hp hr
      have h1 := hbef 1 75 (by omega) rfl
      have h2 : inH 4 m.h (UInt8.toNat 75) = true := k_four m.h
      rw [h2] at h1
      have h3 : m.may li le ls lx (UInt8.toNat 75) = true := by
        cases h4 : m.may li le ls lx (UInt8.toNat 75) with
        | true => rfl
        | false => rw [h4] at h1; cases h1
      have h5 : inR m.n (lstK m.k) 1099511627776 = true := h3
      have hk4 : lstK m.k = 1 := by rw [hmk]; rfl
      rw [hk4] at h5
      have h6 := of_decide_eq_true h5
      exact mayE (hT.below hW) hm hL h6
    · exact mayG (hT.below hW) hm hL
  · intro r hr hin W hW
    have hm := hM.under hW
    have hin2 : r ∈ [(86 : UInt8), 75, 67, 78, 76, 81, 72, 79, 82, 69, 71] := hr
    simp only [List.mem_cons, List.not_mem_nil, or_false] at hin2
    rcases hin2 with rfl | rfl | rfl | rfl | rfl | rfl | rfl | rfl | rfl | rfl | rfl
    · exact qw _ _ _ _ (zeroV hm)
    · exact qw _ _ _ _ (zeroK hm)
    · exact qw _ _ _ _ (zeroC hm)
    · exact qw _ _ _ _ (zeroN hm)
    · exact qw _ _ _ _ (zeroL hm)
    · exact qw _ _ _ _ (zeroQ hm)
    · exact qw _ _ _ _ (zeroH hm)
    · exact qw _ _ _ _ (zeroO hm)
    · exact qw _ _ _ _ (zeroR hm)
    · exact qw _ _ _ _ (zeroE hm)
    · exact qw _ _ _ _ (zeroG hm)
end Go.Proofs.YtdhkdniddjnigaaGreatDoor

namespace Go.Proofs.YtdhkdniddjnigaaGreatDoor
open Go.RowKit Go.Lib
set_option linter.unusedVariables false

/-- Is it to itself? -/
def Ms.slf (m : Ms) : Bool := decide (m.f = m.t) && (!decide (m.k = 1 ∨ m.k = 14) && !decide (m.k = 2 ∨ m.k = 3 ∨ m.k = 15))
set_option maxRecDepth 1000000 in
theorem itself_any {w : World} (m : Ms) : Calls Tryz.prog 93 #[m.V] w fun e w' => e = .returned (.bool m.slf) ∧ Below w.heap.size w w' := by
  have C10 : Hid (∀ W : World, Calls Tryz.prog 91 #[.int .i64 m.k] W fun e w' => e = .returned (.bool (decide (m.k = 1 ∨ m.k = 14))) ∧ w' = W) := hid (fun W => from_any m.k)
  have C11 : Hid (∀ W : World, Calls Tryz.prog 92 #[.int .i64 m.k] W fun e w' => e = .returned (.bool (decide (m.k = 2 ∨ m.k = 3 ∨ m.k = 15))) ∧ w' = W) := hid (fun W => to_any m.k)
  have E : Hid (m.slf = (decide (m.f = m.t) && (!decide (m.k = 1 ∨ m.k = 14) && !decide (m.k = 2 ∨ m.k = 3 ∨ m.k = 15)))) := hid rfl
  generalize decide (m.k = 1 ∨ m.k = 14) = x at C10 E
  generalize decide (m.k = 2 ∨ m.k = 3 ∨ m.k = 15) = y at C11 E
  generalize m.slf = z at E ⊢
  by_cases hne : m.f = m.t
  rotate_left
  · have F : Hid (z = false) := hid (by rw [E.out, decide_eq_false hne]; rfl)
    have hb : (m.f == m.t) = false := by simpa using hne
    clear hne
    go_enter Tryz.func93, Tryz.ntmps93
    go_wp2
    go_ret
    exact ⟨by rw [F.out]; rfl, ba _ _⟩
  have hb : (m.f == m.t) = true := by simpa using hne
  have F : Hid (z = (!x && !y)) := hid (by rw [E.out, decide_eq_true hne]; rfl)
  clear hne E
  have BA := hid (ba w (.cells m.cells.toArray 51))
  have M0 := hid (MsAt.new w m)
  go_enter Tryz.func93, Tryz.ntmps93
  go_upto_region 1 with fail
  obtain ⟨b, hbb⟩ : ∃ b, Hid (b = w.heap.size) := ⟨_, hid rfl⟩
  have e0 : Hid (∀ o, w.alloc o = w.alloc o) := hid (fun _ => rfl)
  rw [← hbb.out] at M0 ⊢
  change Code.wp _ _ _ _ (w.alloc (.cells m.cells.toArray 51))
  generalize w.alloc (.cells m.cells.toArray 51) = w1 at BA M0 ⊢
  have c0 : w1.cell? ⟨b, 0, none⟩ = some (.int .i64 m.k) := M0.out 0 _ rfl
  have c1 : w1.cell? ⟨b, 1, none⟩ = some (.int .i64 m.f) := M0.out 1 _ rfl
  have c2 : w1.cell? ⟨b, 2, none⟩ = some (.int .i64 m.t) := M0.out 2 _ rfl
  cases x
  · cases y
    · go_wp2_with (first | (go_at_call 91; refine (C10.out _).mono ?_; rintro e w' ⟨rfl, rfl⟩) | (go_at_call 92; refine (C11.out _).mono ?_; rintro e w' ⟨rfl, rfl⟩))
      go_ret
      exact ⟨by rw [F.out]; rfl, BA.out⟩
    · go_wp2_with (first | (go_at_call 91; refine (C10.out _).mono ?_; rintro e w' ⟨rfl, rfl⟩) | (go_at_call 92; refine (C11.out _).mono ?_; rintro e w' ⟨rfl, rfl⟩))
      go_ret
      exact ⟨by rw [F.out]; rfl, BA.out⟩
  · go_wp2_with (first | (go_at_call 91; refine (C10.out _).mono ?_; rintro e w' ⟨rfl, rfl⟩) | (go_at_call 92; refine (C11.out _).mono ?_; rintro e w' ⟨rfl, rfl⟩))
    go_ret
    exact ⟨by rw [F.out]; rfl, BA.out⟩
/-- Is there such an end? -/
def endB (n who : Int) (c : Bool) : Bool := if c then decide (0 ≤ who ∧ who ≤ 7) else decide (0 ≤ who ∧ who ≤ n - 1)
/-- What Check tells. -/
def chkM (n : Int) (m : Ms) (E : Int) : Int := if ¬(n = 3 ∨ n = 5 ∨ n = 7) then 1 else if ¬(1 ≤ m.k ∧ m.k ≤ 15) then 110 else if endB n m.f (decide (m.k = 1 ∨ m.k = 14)) = false then 111
  else if endB n m.t (decide (m.k = 2 ∨ m.k = 3 ∨ m.k = 15)) = false then 112 else if m.slf = true then 112 else E
set_option maxHeartbeats 6400000 in
set_option maxRecDepth 1000000 in
/-- Check of any message. -/
theorem checkM_any {w : World} (n : Int) (hn : -9223372036854775808 < n) (hn2 : n ≤ 9223372036854775807) (m : Ms) (E : Int)
    (H34 : 1 ≤ m.k ∧ m.k ≤ 15 → ∀ (W : World) (b : Nat), Below w.heap.size w W → MsAt W b m → Calls Tryz.prog 94 #[.pointer (some ⟨b, 0, none⟩)] W fun e w' => e = .returned (.int .i64 E) ∧ Below W.heap.size W w') :
    Calls Tryz.prog 56 #[.int .i64 n, m.V] w fun e w' => e = .returned (.int .i64 (chkM n m E)) ∧ Below w.heap.size w w' := by
  obtain ⟨r, hr⟩ : ∃ r, Hid (chkM n m E = r) := ⟨_, hid rfl⟩
  rw [hr.out]
  have C31 : Hid (∀ W : World, Calls Tryz.prog 89 #[.int .i64 n] W fun e w' => e = .returned (.bool (decide (n = 3 ∨ n = 5 ∨ n = 7))) ∧ w' = W) := hid (fun W => fleet_any n)
  have M0 := hid (MsAt.new w m)
  have B0 := hid (ba w (.cells m.cells.toArray 51))
  by_cases hf : n = 3 ∨ n = 5 ∨ n = 7
  rotate_left
  · have F : Hid (r = 1) := hid (by rw [← hr.out]; unfold chkM; rw [if_pos hf])
    rw [decide_eq_false hf] at C31
    clear hf H34 hr
    go_enter Tryz.func56, Tryz.ntmps56
    go_wp2_with fail
    refine (C31.out _).mono ?_
    rintro e w1 ⟨rfl, hw1⟩
    have B0 : Hid (Below w.heap.size w w1) := hid (by rw [hw1]; exact B0.out)
    clear hw1 C31
    go_wp2
    go_ret
    exact ⟨by rw [F.out]; rfl, B0.out⟩
  rw [decide_eq_true hf] at C31
  have hr : Hid ((if ¬(1 ≤ m.k ∧ m.k ≤ 15) then 110 else if endB n m.f (decide (m.k = 1 ∨ m.k = 14)) = false then 111 else if endB n m.t (decide (m.k = 2 ∨ m.k = 3 ∨ m.k = 15)) = false then 112 else if m.slf = true then 112 else E) = r) := hid (by rw [← hr.out]; unfold chkM; rw [if_neg (not_not_intro hf)])
  clear hf
  by_cases k1 : m.k < 1
  · have F : Hid (r = 110) := hid (by rw [← hr.out, if_pos (by omega)])
    have e1 : decide (m.k < 1) = true := by simpa using k1
    clear k1 H34 hr
    go_enter Tryz.func56, Tryz.ntmps56
    go_wp2_with fail
    refine (C31.out _).mono ?_
    rintro e w1 ⟨rfl, hw1⟩
    have c0 : w1.cell? ⟨w.heap.size, 0, none⟩ = some (.int .i64 m.k) := by rw [hw1]; exact M0.out 0 _ rfl
    have B0 : Hid (Below w.heap.size w w1) := hid (by rw [hw1]; exact B0.out)
    clear hw1 C31
    go_wp2
    go_ret
    exact ⟨by rw [F.out]; rfl, B0.out⟩
  have e1 : decide (m.k < 1) = false := by simpa using k1
  by_cases k2 : 15 < m.k
  · have F : Hid (r = 110) := hid (by rw [← hr.out, if_pos (by omega)])
    have e2 : decide (15 < m.k) = true := by simpa using k2
    clear k1 k2 H34 hr
    go_enter Tryz.func56, Tryz.ntmps56
    go_wp2_with fail
    refine (C31.out _).mono ?_
    rintro e w1 ⟨rfl, hw1⟩
    have c0 : w1.cell? ⟨w.heap.size, 0, none⟩ = some (.int .i64 m.k) := by rw [hw1]; exact M0.out 0 _ rfl
    have B0 : Hid (Below w.heap.size w w1) := hid (by rw [hw1]; exact B0.out)
    clear hw1 C31
    go_wp2
    go_ret
    exact ⟨by rw [F.out]; rfl, B0.out⟩
  have e2 : decide (15 < m.k) = false := by simpa using k2
  have HH := hid (H34 (by omega))
  have hr : Hid ((if endB n m.f (decide (m.k = 1 ∨ m.k = 14)) = false then 111 else if endB n m.t (decide (m.k = 2 ∨ m.k = 3 ∨ m.k = 15)) = false then 112 else if m.slf = true then 112 else E) = r) := hid (by rw [← hr.out, if_neg (c := ¬(1 ≤ m.k ∧ m.k ≤ 15)) (by omega)])
  have C10 : Hid (∀ W : World, Calls Tryz.prog 91 #[.int .i64 m.k] W fun e w' => e = .returned (.bool (decide (m.k = 1 ∨ m.k = 14))) ∧ w' = W) := hid (fun W => from_any m.k)
  have C11 : Hid (∀ W : World, Calls Tryz.prog 92 #[.int .i64 m.k] W fun e w' => e = .returned (.bool (decide (m.k = 2 ∨ m.k = 3 ∨ m.k = 15))) ∧ w' = W) := hid (fun W => to_any m.k)
  have CF : Hid (∀ (c : Bool) (W : World), Calls Tryz.prog 90 #[.int .i64 n, .int .i64 m.f, .bool c] W fun e w' => e = .returned (.bool (endB n m.f c)) ∧ w' = W) := hid (fun c W => isEnd_any n m.f c hn hn2)
  have CT : Hid (∀ (c : Bool) (W : World), Calls Tryz.prog 90 #[.int .i64 n, .int .i64 m.t, .bool c] W fun e w' => e = .returned (.bool (endB n m.t c)) ∧ w' = W) := hid (fun c W => isEnd_any n m.t c hn hn2)
  have C33 : Hid (∀ W : World, Calls Tryz.prog 93 #[.agg m.cells.toArray] W fun e w' => e = .returned (.bool m.slf) ∧ Below W.heap.size W w') := hid (fun W => itself_any m)
  generalize decide (m.k = 1 ∨ m.k = 14) = cF at C10 hr
  generalize decide (m.k = 2 ∨ m.k = 3 ∨ m.k = 15) = cT at C11 hr
  have CF : Hid (∀ (W : World), Calls Tryz.prog 90 #[.int .i64 n, .int .i64 m.f, .bool cF] W fun e w' => e = .returned (.bool (endB n m.f cF)) ∧ w' = W) := hid (CF.out cF)
  have CT : Hid (∀ (W : World), Calls Tryz.prog 90 #[.int .i64 n, .int .i64 m.t, .bool cT] W fun e w' => e = .returned (.bool (endB n m.t cT)) ∧ w' = W) := hid (CT.out cT)
  generalize endB n m.f cF = eF at CF hr
  generalize endB n m.t cT = eT at CT hr
  generalize m.slf = sB at C33 hr
  clear H34 k1 k2 hn hn2
  go_enter Tryz.func56, Tryz.ntmps56
  go_wp2_with fail
  refine (C31.out _).mono ?_
  rintro e w1 ⟨rfl, hw1⟩
  have M0 : Hid (MsAt w1 w.heap.size m) := hid (by rw [hw1]; exact M0.out)
  have B0 : Hid (Below w.heap.size w w1) := hid (by rw [hw1]; exact B0.out)
  clear hw1 C31
  obtain ⟨b, hbb⟩ : ∃ b, Hid (b = w.heap.size) := ⟨_, hid rfl⟩
  rw [← hbb.out] at M0
  simp only [← hbb.out]
  have B0 : Hid (Below w.heap.size w w1) := hid (by have := B0.out; rwa [← hbb.out] at this ⊢)
  have c0 : w1.cell? ⟨b, 0, none⟩ = some (.int .i64 m.k) := M0.out 0 _ rfl
  have c1 : w1.cell? ⟨b, 1, none⟩ = some (.int .i64 m.f) := M0.out 1 _ rfl
  go_wp2
  go_region_held3 (fun W => W.cell? ⟨b, 0, none⟩ = some (.int .i64 m.k) ∧ W.cell? ⟨b, 1, none⟩ = some (.int .i64 m.f)) (go_keep)
    (first
      | (go_at_call 91; refine (C10.out _).mono ?_; rintro e w2 ⟨rfl, hw2⟩; subst hw2)
      | (go_at_call 90; refine (CF.out _).mono ?_; rintro e w2 ⟨rfl, hw2⟩; subst hw2))
  have M3 : Hid (MsAt w1.drew b m) := hid (M0.out.under (bd w1))
  have B3 : Hid (Below w.heap.size w w1.drew) := hid (b2 B0.out (bd w1))
  generalize w1.drew = w3 at M3 B3 ⊢
  clear M0 B0 C10 CF c0 c1
  cases eF
  · have F : Hid (r = 111) := hid (by rw [← hr.out]; rfl)
    clear hr
    go_wp2
    go_ret
    exact ⟨by rw [F.out]; rfl, by first | exact B3.out | (rw [hbb.out]; exact B3.out)⟩
  have hr : Hid ((if eT = false then 112 else if sB = true then 112 else E) = r) := hid (by rw [← hr.out]; rfl)
  have y0 := (M3.out.under (bd w3)) 0 _ rfl
  have y2 := (M3.out.under (bd w3)) 2 _ rfl
  have yM := M3.out.under (bd w3)
  have yR : Hid (w3.drew.rangeAt b 0 m.cells) := hid (fun j u hu => by rw [Nat.zero_add]; exact yM j u hu)
  have i34 : (Tryz.prog.info? 51).map (·.size) = some m.cells.length := by kernel_rfl
  have i34 := hid i34
  cases eT
  · have F : Hid (r = 112) := hid (by rw [← hr.out]; rfl)
    clear hr
    go_wp2
    refine wp_region_held_drew (S := (fun W => W.cell? ⟨b, 0, none⟩ = some (.int .i64 m.k) ∧ W.cell? ⟨b, 2, none⟩ = some (.int .i64 m.t) ∧ W.rangeAt b 0 m.cells)) (by kernel_rfl) ⟨y0, y2, yR.out⟩ (fun hHeld => ?_)
    refine wpAnyH_take (i := 0) (oi := { dst := some 28, op := Go.Op.move (Go.Operand.tmp 0), type := 3, pos := "mail.go:25", after := #[], guard := none }) (v := ?_) rfl (by kernel_rfl) (by kernel_rfl) (by kernel_rfl) (fun _ _ _ h => h) (Or.inl ⟨by rfl, ?_⟩) hHeld ?_
    rotate_left
    · intro W hSw
      (try dsimp only at hSw)
      go_simp
      (try with_reducible rfl)
    (try simp only [Act.put, List.setIfInBounds_toArray, List.set_cons_zero, List.set_cons_succ])
    refine wpAnyH_take (i := 1) (oi := { dst := some 29, op := Go.Op.fieldAddr 51 (Go.Operand.tmp 3) 2, type := 0, pos := "mail.go:25", after := #[], guard := none }) (v := ?_) rfl (by kernel_rfl) (by kernel_rfl) (by kernel_rfl) (fun _ _ _ h => h) (Or.inl ⟨by rfl, ?_⟩) hHeld ?_
    rotate_left
    · intro W hSw
      (try dsimp only at hSw)
      go_simp
      (try with_reducible rfl)
    (try simp only [Act.put, List.setIfInBounds_toArray, List.set_cons_zero, List.set_cons_succ])
    refine wpAnyH_take (i := 2) (oi := { dst := some 30, op := Go.Op.load 3 (Go.Operand.tmp 29), type := 3, pos := "mail.go:25", after := #[{ on := 1, ground := Go.Ground.data }], guard := none }) (v := ?_) rfl (by kernel_rfl) (by kernel_rfl) (by kernel_rfl) (fun _ _ _ h => h) (Or.inl ⟨by rfl, ?_⟩) hHeld ?_
    rotate_left
    · intro W hSw
      (try dsimp only at hSw)
      go_simp
      (try with_reducible rfl)
    (try simp only [Act.put, List.setIfInBounds_toArray, List.set_cons_zero, List.set_cons_succ])
    refine wpAnyH_take (i := 3) (oi := { dst := some 31, op := Go.Op.fieldAddr 51 (Go.Operand.tmp 3) 0, type := 0, pos := "mail.go:25", after := #[], guard := none }) (v := ?_) rfl (by kernel_rfl) (by kernel_rfl) (by kernel_rfl) (fun _ _ _ h => h) (Or.inl ⟨by rfl, ?_⟩) hHeld ?_
    rotate_left
    · intro W hSw
      (try dsimp only at hSw)
      go_simp
      (try with_reducible rfl)
    (try simp only [Act.put, List.setIfInBounds_toArray, List.set_cons_zero, List.set_cons_succ])
    refine wpAnyH_take (i := 4) (oi := { dst := some 32, op := Go.Op.load 3 (Go.Operand.tmp 31), type := 3, pos := "mail.go:25", after := #[{ on := 3, ground := Go.Ground.data }], guard := none }) (v := ?_) rfl (by kernel_rfl) (by kernel_rfl) (by kernel_rfl) (fun _ _ _ h => h) (Or.inl ⟨by rfl, ?_⟩) hHeld ?_
    rotate_left
    · intro W hSw
      (try dsimp only at hSw)
      go_simp
      (try with_reducible rfl)
    (try simp only [Act.put, List.setIfInBounds_toArray, List.set_cons_zero, List.set_cons_succ])
    refine wpAnyH_ready (rs := [5]) (by kernel_rfl) (by simp) ?_
    refine AllReadyH.cons (o := { dst := some 33, op := Go.Op.call { callee := Go.Callee.value (Go.Operand.func 92), args := #[Go.Operand.tmp 32], argTypes := #[3] }, type := 4, pos := "mail.go:25", after := #[{ on := 4, ground := Go.Ground.data }], guard := none }) rfl (fun K hK => ?_) AllReadyH.nil
    go_simp
    refine (C11.out _).mono ?_; rintro e w2 ⟨rfl, hw2⟩; subst hw2
    refine hK.out _ _ ⟨y0, y2, yR.out⟩ (fun hHeld => ?_)
    clear hK K
    (try simp only [Act.put, List.setIfInBounds_toArray, List.set_cons_zero, List.set_cons_succ])
    refine wpAnyH_ready (rs := [6]) (by kernel_rfl) (by simp) ?_
    refine AllReadyH.cons (o := { dst := some 34, op := Go.Op.call { callee := Go.Callee.value (Go.Operand.func 90), args := #[Go.Operand.tmp 28, Go.Operand.tmp 30, Go.Operand.tmp 33], argTypes := #[3, 3, 4] }, type := 4, pos := "mail.go:25", after := #[{ on := 0, ground := Go.Ground.data }, { on := 2, ground := Go.Ground.data }, { on := 5, ground := Go.Ground.data }, { on := 5, ground := Go.Ground.chain }], guard := none }) rfl (fun K hK => ?_) AllReadyH.nil
    go_simp
    refine (CT.out _).mono ?_; rintro e w2 ⟨rfl, hw2⟩; subst hw2
    refine hK.out _ _ ⟨y0, y2, yR.out⟩ (fun hHeld => ?_)
    clear hK K
    (try simp only [Act.put, List.setIfInBounds_toArray, List.set_cons_zero, List.set_cons_succ])
    refine wpAnyH_take (i := 7) (oi := { dst := some 35, op := Go.Op.unOp Go.UnOp.not 4 (Go.Operand.tmp 34), type := 4, pos := "mail.go:25", after := #[{ on := 6, ground := Go.Ground.data }], guard := none }) (v := ?_) rfl (by kernel_rfl) (by kernel_rfl) (by kernel_rfl) (fun _ _ _ h => h) (Or.inl ⟨by rfl, ?_⟩) hHeld ?_
    rotate_left
    · intro W hSw
      (try dsimp only at hSw)
      go_simp
      (try with_reducible rfl)
    (try simp only [Act.put, List.setIfInBounds_toArray, List.set_cons_zero, List.set_cons_succ])
    refine wpAnyH_take (i := 8) (oi := { dst := some 36, op := Go.Op.move (Go.Operand.tmp 35), type := 4, pos := "mail.go:25", after := #[{ on := 7, ground := Go.Ground.data }, { on := 6, ground := Go.Ground.chain }], guard := none }) (v := ?_) rfl (by kernel_rfl) (by kernel_rfl) (by kernel_rfl) (fun _ _ _ h => h) (Or.inl ⟨by rfl, ?_⟩) hHeld ?_
    rotate_left
    · intro W hSw
      (try dsimp only at hSw)
      go_simp
      (try with_reducible rfl)
    (try simp only [Act.put, List.setIfInBounds_toArray, List.set_cons_zero, List.set_cons_succ])
    refine wpAnyH_take (i := 9) (oi := { dst := some 37, op := Go.Op.load 51 (Go.Operand.tmp 3), type := 51, pos := "mail.go:25", after := #[{ on := 8, ground := Go.Ground.guard }], guard := some (8, false) }) (v := undef) rfl (by kernel_rfl) (by kernel_rfl) (by kernel_rfl) (fun _ _ _ h => h) (Or.inr ⟨by rfl, rfl⟩) hHeld ?_
    (try simp only [Act.put, List.setIfInBounds_toArray, List.set_cons_zero, List.set_cons_succ])
    refine wpAnyH_take (i := 10) (oi := { dst := some 38, op := Go.Op.call { callee := Go.Callee.value (Go.Operand.func 93), args := #[Go.Operand.tmp 37], argTypes := #[51] }, type := 4, pos := "mail.go:25", after := #[{ on := 9, ground := Go.Ground.data }, { on := 8, ground := Go.Ground.chain }, { on := 8, ground := Go.Ground.guard }], guard := some (8, false) }) (v := undef) rfl (by kernel_rfl) (by kernel_rfl) (by kernel_rfl) (fun _ _ _ h => h) (Or.inr ⟨by rfl, rfl⟩) hHeld ?_
    (try simp only [Act.put, List.setIfInBounds_toArray, List.set_cons_zero, List.set_cons_succ])
    refine wpAnyH_take (i := 11) (oi := { dst := some 39, op := Go.Op.pick (Go.Operand.tmp 36) (Go.Operand.const (Go.Value.bool true)) (Go.Operand.tmp 38), type := 4, pos := "mail.go:25", after := #[{ on := 8, ground := Go.Ground.data }, { on := 10, ground := Go.Ground.data }], guard := none }) (v := ?_) rfl (by kernel_rfl) (by kernel_rfl) (by kernel_rfl) (fun _ _ _ h => h) (Or.inl ⟨by rfl, ?_⟩) hHeld ?_
    rotate_left
    · intro W hSw
      (try dsimp only at hSw)
      go_simp
      (try with_reducible rfl)
    (try simp only [Act.put, List.setIfInBounds_toArray, List.set_cons_zero, List.set_cons_succ])
    refine wpAnyH_take (i := 12) (oi := { dst := some 27, op := Go.Op.assign (Go.Operand.tmp 39), type := 4, pos := "mail.go:25", after := #[{ on := 11, ground := Go.Ground.data }, { on := 10, ground := Go.Ground.chain }], guard := none }) (v := ?_) rfl (by kernel_rfl) (by kernel_rfl) (by kernel_rfl) (fun _ _ _ h => h) (Or.inl ⟨by rfl, ?_⟩) hHeld ?_
    rotate_left
    · intro W hSw
      (try dsimp only at hSw)
      go_simp
      (try with_reducible rfl)
    (try simp only [Act.put, List.setIfInBounds_toArray, List.set_cons_zero, List.set_cons_succ])
    refine wpAnyH_done (by kernel_rfl) ?_ _
    clear hHeld
    clear y0 y2 yM yR i34
    go_wp2
    go_ret
    exact ⟨by rw [F.out]; rfl, by have := b2 B3.out (bd w3); first | exact this | (rw [hbb.out]; exact this)⟩
  have hr : Hid ((if sB = true then 112 else E) = r) := hid (by rw [← hr.out]; rfl)
  go_wp2
  refine wp_region_held_drew (S := (fun W => W.cell? ⟨b, 0, none⟩ = some (.int .i64 m.k) ∧ W.cell? ⟨b, 2, none⟩ = some (.int .i64 m.t) ∧ W.rangeAt b 0 m.cells)) (by kernel_rfl) ⟨y0, y2, yR.out⟩ (fun hHeld => ?_)
  refine wpAnyH_take (i := 0) (oi := { dst := some 28, op := Go.Op.move (Go.Operand.tmp 0), type := 3, pos := "mail.go:25", after := #[], guard := none }) (v := ?_) rfl (by kernel_rfl) (by kernel_rfl) (by kernel_rfl) (fun _ _ _ h => h) (Or.inl ⟨by rfl, ?_⟩) hHeld ?_
  rotate_left
  · intro W hSw
    (try dsimp only at hSw)
    go_simp
    (try with_reducible rfl)
  (try simp only [Act.put, List.setIfInBounds_toArray, List.set_cons_zero, List.set_cons_succ])
  refine wpAnyH_take (i := 1) (oi := { dst := some 29, op := Go.Op.fieldAddr 51 (Go.Operand.tmp 3) 2, type := 0, pos := "mail.go:25", after := #[], guard := none }) (v := ?_) rfl (by kernel_rfl) (by kernel_rfl) (by kernel_rfl) (fun _ _ _ h => h) (Or.inl ⟨by rfl, ?_⟩) hHeld ?_
  rotate_left
  · intro W hSw
    (try dsimp only at hSw)
    go_simp
    (try with_reducible rfl)
  (try simp only [Act.put, List.setIfInBounds_toArray, List.set_cons_zero, List.set_cons_succ])
  refine wpAnyH_take (i := 2) (oi := { dst := some 30, op := Go.Op.load 3 (Go.Operand.tmp 29), type := 3, pos := "mail.go:25", after := #[{ on := 1, ground := Go.Ground.data }], guard := none }) (v := ?_) rfl (by kernel_rfl) (by kernel_rfl) (by kernel_rfl) (fun _ _ _ h => h) (Or.inl ⟨by rfl, ?_⟩) hHeld ?_
  rotate_left
  · intro W hSw
    (try dsimp only at hSw)
    go_simp
    (try with_reducible rfl)
  (try simp only [Act.put, List.setIfInBounds_toArray, List.set_cons_zero, List.set_cons_succ])
  refine wpAnyH_take (i := 3) (oi := { dst := some 31, op := Go.Op.fieldAddr 51 (Go.Operand.tmp 3) 0, type := 0, pos := "mail.go:25", after := #[], guard := none }) (v := ?_) rfl (by kernel_rfl) (by kernel_rfl) (by kernel_rfl) (fun _ _ _ h => h) (Or.inl ⟨by rfl, ?_⟩) hHeld ?_
  rotate_left
  · intro W hSw
    (try dsimp only at hSw)
    go_simp
    (try with_reducible rfl)
  (try simp only [Act.put, List.setIfInBounds_toArray, List.set_cons_zero, List.set_cons_succ])
  refine wpAnyH_take (i := 4) (oi := { dst := some 32, op := Go.Op.load 3 (Go.Operand.tmp 31), type := 3, pos := "mail.go:25", after := #[{ on := 3, ground := Go.Ground.data }], guard := none }) (v := ?_) rfl (by kernel_rfl) (by kernel_rfl) (by kernel_rfl) (fun _ _ _ h => h) (Or.inl ⟨by rfl, ?_⟩) hHeld ?_
  rotate_left
  · intro W hSw
    (try dsimp only at hSw)
    go_simp
    (try with_reducible rfl)
  (try simp only [Act.put, List.setIfInBounds_toArray, List.set_cons_zero, List.set_cons_succ])
  refine wpAnyH_ready (rs := [5]) (by kernel_rfl) (by simp) ?_
  refine AllReadyH.cons (o := { dst := some 33, op := Go.Op.call { callee := Go.Callee.value (Go.Operand.func 92), args := #[Go.Operand.tmp 32], argTypes := #[3] }, type := 4, pos := "mail.go:25", after := #[{ on := 4, ground := Go.Ground.data }], guard := none }) rfl (fun K hK => ?_) AllReadyH.nil
  go_simp
  refine (C11.out _).mono ?_; rintro e w2 ⟨rfl, hw2⟩; subst hw2
  refine hK.out _ _ ⟨y0, y2, yR.out⟩ (fun hHeld => ?_)
  clear hK K
  (try simp only [Act.put, List.setIfInBounds_toArray, List.set_cons_zero, List.set_cons_succ])
  refine wpAnyH_ready (rs := [6]) (by kernel_rfl) (by simp) ?_
  refine AllReadyH.cons (o := { dst := some 34, op := Go.Op.call { callee := Go.Callee.value (Go.Operand.func 90), args := #[Go.Operand.tmp 28, Go.Operand.tmp 30, Go.Operand.tmp 33], argTypes := #[3, 3, 4] }, type := 4, pos := "mail.go:25", after := #[{ on := 0, ground := Go.Ground.data }, { on := 2, ground := Go.Ground.data }, { on := 5, ground := Go.Ground.data }, { on := 5, ground := Go.Ground.chain }], guard := none }) rfl (fun K hK => ?_) AllReadyH.nil
  go_simp
  refine (CT.out _).mono ?_; rintro e w2 ⟨rfl, hw2⟩; subst hw2
  refine hK.out _ _ ⟨y0, y2, yR.out⟩ (fun hHeld => ?_)
  clear hK K
  (try simp only [Act.put, List.setIfInBounds_toArray, List.set_cons_zero, List.set_cons_succ])
  refine wpAnyH_take (i := 7) (oi := { dst := some 35, op := Go.Op.unOp Go.UnOp.not 4 (Go.Operand.tmp 34), type := 4, pos := "mail.go:25", after := #[{ on := 6, ground := Go.Ground.data }], guard := none }) (v := ?_) rfl (by kernel_rfl) (by kernel_rfl) (by kernel_rfl) (fun _ _ _ h => h) (Or.inl ⟨by rfl, ?_⟩) hHeld ?_
  rotate_left
  · intro W hSw
    (try dsimp only at hSw)
    go_simp
    (try with_reducible rfl)
  (try simp only [Act.put, List.setIfInBounds_toArray, List.set_cons_zero, List.set_cons_succ])
  refine wpAnyH_take (i := 8) (oi := { dst := some 36, op := Go.Op.move (Go.Operand.tmp 35), type := 4, pos := "mail.go:25", after := #[{ on := 7, ground := Go.Ground.data }, { on := 6, ground := Go.Ground.chain }], guard := none }) (v := ?_) rfl (by kernel_rfl) (by kernel_rfl) (by kernel_rfl) (fun _ _ _ h => h) (Or.inl ⟨by rfl, ?_⟩) hHeld ?_
  rotate_left
  · intro W hSw
    (try dsimp only at hSw)
    go_simp
    (try with_reducible rfl)
  (try simp only [Act.put, List.setIfInBounds_toArray, List.set_cons_zero, List.set_cons_succ])
  refine wpAnyH_take (i := 9) (oi := { dst := some 37, op := Op.load 51 (Operand.tmp 3), type := 51, pos := "mail.go:25", after := #[{ on := 8, ground := Ground.guard }], guard := some (8, false) }) (v := .agg m.cells.toArray) rfl (by kernel_rfl) (by kernel_rfl) (by kernel_rfl) (fun _ _ _ h => h) (yieldsIf_load_mid (by rfl) 51 (.tmp 3) rfl b 0 rfl m.cells _ (fun W hW => hW.2.2) Tryz.underlying51 rfl i34.out) hHeld ?_
  (try simp only [Act.put, List.setIfInBounds_toArray, List.set_cons_zero, List.set_cons_succ])
  refine wpAnyH_ready (rs := [10]) (by kernel_rfl) (by simp) ?_
  refine AllReadyH.cons (o := { dst := some 38, op := Go.Op.call { callee := Go.Callee.value (Go.Operand.func 93), args := #[Go.Operand.tmp 37], argTypes := #[51] }, type := 4, pos := "mail.go:25", after := #[{ on := 9, ground := Go.Ground.data }, { on := 8, ground := Go.Ground.chain }, { on := 8, ground := Go.Ground.guard }], guard := some (8, false) }) rfl (fun K hK => ?_) AllReadyH.nil
  go_simp
  refine (C33.out _).mono ?_; rintro e w4 ⟨rfl, hb4⟩; have M4 := hid ((M3.out.under (bd w3)).under hb4); have B4 := hid (b2 (b2 B3.out (bd w3)) hb4); have z0 := M4.out 0 _ rfl; have z2 := M4.out 2 _ rfl
  refine hK.out _ _ ⟨z0, z2, fun j u hu => by rw [Nat.zero_add]; exact M4.out j u hu⟩ (fun hHeld => ?_)
  clear hK K
  (try simp only [Act.put, List.setIfInBounds_toArray, List.set_cons_zero, List.set_cons_succ])
  refine wpAnyH_take (i := 11) (oi := { dst := some 39, op := Go.Op.pick (Go.Operand.tmp 36) (Go.Operand.const (Go.Value.bool true)) (Go.Operand.tmp 38), type := 4, pos := "mail.go:25", after := #[{ on := 8, ground := Go.Ground.data }, { on := 10, ground := Go.Ground.data }], guard := none }) (v := ?_) rfl (by kernel_rfl) (by kernel_rfl) (by kernel_rfl) (fun _ _ _ h => h) (Or.inl ⟨by rfl, ?_⟩) hHeld ?_
  rotate_left
  · intro W hSw
    (try dsimp only at hSw)
    go_simp
    (try with_reducible rfl)
  (try simp only [Act.put, List.setIfInBounds_toArray, List.set_cons_zero, List.set_cons_succ])
  refine wpAnyH_take (i := 12) (oi := { dst := some 27, op := Go.Op.assign (Go.Operand.tmp 39), type := 4, pos := "mail.go:25", after := #[{ on := 11, ground := Go.Ground.data }, { on := 10, ground := Go.Ground.chain }], guard := none }) (v := ?_) rfl (by kernel_rfl) (by kernel_rfl) (by kernel_rfl) (fun _ _ _ h => h) (Or.inl ⟨by rfl, ?_⟩) hHeld ?_
  rotate_left
  · intro W hSw
    (try dsimp only at hSw)
    go_simp
    (try with_reducible rfl)
  (try simp only [Act.put, List.setIfInBounds_toArray, List.set_cons_zero, List.set_cons_succ])
  refine wpAnyH_done (by kernel_rfl) ?_ _
  clear hHeld
  clear y0 y2 yM z0 z2 yR i34
  cases sB
  rotate_left
  · have F : Hid (r = 112) := hid (by rw [← hr.out]; rfl)
    clear hr
    go_wp2
    go_ret
    exact ⟨by rw [F.out]; rfl, by first | exact B4.out | (rw [hbb.out]; exact B4.out)⟩
  have F : Hid (r = E) := hid (by rw [← hr.out]; rfl)
  clear hr
  go_wp2_with fail
  refine (HH.out _ _ B4.out M4.out).mono ?_
  rintro e w5 ⟨rfl, hb5⟩
  have B5 := hid (b2 B4.out hb5)
  clear hb5
  go_wp2
  go_ret
  exact ⟨by rw [F.out]; rfl, by first | exact B5.out | (rw [hbb.out]; exact B5.out)⟩
end Go.Proofs.YtdhkdniddjnigaaGreatDoor

namespace Go.Proofs.YtdhkdniddjnigaaGreatDoor
open Go.RowKit
set_option linter.unusedVariables false

def wi (v l m : Int) : Bool := decide (l ≤ v) && decide (v ≤ m)
def fl (n : Int) : Bool := n == 3 || n == 5 || n == 7
theorem vwithin_any {w : World} (v l m : Int) : Calls Tryz.prog 64 #[.int .i64 v, .int .i64 l, .int .i64 m] w fun e w' => e = .returned (.bool (wi v l m)) ∧ w' = w := by
  unfold wi
  by_cases h1 : l ≤ v
  · by_cases h2 : v ≤ m
    all_goals
      go_enter Tryz.func64, Tryz.ntmps64
      go_wp2
      go_ret
      exact ⟨by simp [h1, h2], rfl⟩
  · go_enter Tryz.func64, Tryz.ntmps64
    go_wp2
    go_ret
    exact ⟨by rw [show decide (l ≤ v) = false from decide_eq_false (by omega)]; rfl, rfl⟩
theorem vfleet_any {w : World} (n : Int) : Calls Tryz.prog 63 #[.int .i64 n] w fun e w' => e = .returned (.bool (fl n)) ∧ w' = w := by
  unfold fl
  by_cases h1 : n = 3
  · subst h1
    go_enter Tryz.func63, Tryz.ntmps63
    go_wp2
    go_ret
    exact ⟨rfl, rfl⟩
  · by_cases h2 : n = 5
    · subst h2
      go_enter Tryz.func63, Tryz.ntmps63
      go_wp2
      go_ret
      exact ⟨rfl, rfl⟩
    · go_enter Tryz.func63, Tryz.ntmps63
      go_wp2
      go_ret
      exact ⟨by simp, rfl⟩
abbrev cfgV (a0 a1 a2 a3 a4 a5 a6 a7 a8 a9 : Int) : Value := .agg #[.int .i64 a0, .int .i64 a1, .int .i64 a2, .int .i64 a3, .int .i64 a4, .int .i64 a5, .int .i64 a6, .int .i64 a7, .int .i64 a8, .int .i64 a9]
abbrev cfgB (a0 a1 a2 a3 a4 a5 a6 a7 a8 a9 : Int) : Obj := .cells #[.int .i64 a0, .int .i64 a1, .int .i64 a2, .int .i64 a3, .int .i64 a4, .int .i64 a5, .int .i64 a6, .int .i64 a7, .int .i64 a8, .int .i64 a9] 23
def cfgOK (a0 a1 a2 a3 a4 a5 a6 a7 a8 a9 : Int) : Bool := fl a0 && wi a1 1 8 && wi a2 1 16 && wi a3 1 16 && wi a4 (wrap64 (a2 + 1)) 256 && wi a5 a4 1024 && wi a6 1 a5 && wi a8 2 64 && wi a7 1 (wrap64 (a8 - 1)) && wi a9 1 8
def cfgE (b : Bool) : Int := if b then 0 else 42
theorem cfgE_t {b : Bool} (h : b = true) : cfgE b = 0 := by rw [h]; rfl
theorem cfgE_f {b : Bool} (h : b = false) : cfgE b = 42 := by rw [h]; rfl
theorem vwithin_b {w : World} (v l m : Int) : Calls Tryz.prog 64 #[.int .i64 v, .int .i64 l, .int .i64 m] w fun e w' => ∃ b, Hid (wi v l m = b) ∧ e = .returned (.bool b) ∧ w' = w :=
  (vwithin_any v l m).mono fun e w' ⟨h, h'⟩ => ⟨_, hid rfl, h, h'⟩
theorem vfleet_b {w : World} (n : Int) : Calls Tryz.prog 63 #[.int .i64 n] w fun e w' => ∃ b, Hid (fl n = b) ∧ e = .returned (.bool b) ∧ w' = w :=
  (vfleet_any n).mono fun e w' ⟨h, h'⟩ => ⟨_, hid rfl, h, h'⟩
set_option maxRecDepth 1000000 in
theorem cfg_any {w : World} (a0 a1 a2 a3 a4 a5 a6 a7 a8 a9 : Int) : Calls Tryz.prog 38 #[cfgV a0 a1 a2 a3 a4 a5 a6 a7 a8 a9] w fun e w' => e = .returned (.int .i64 (cfgE (cfgOK a0 a1 a2 a3 a4 a5 a6 a7 a8 a9))) ∧ Below w.heap.size w w' := by
  go_enter Tryz.func38, Tryz.ntmps38
  go_wp2_with fail
  refine (vfleet_b _).mono ?_
  rintro e w1 ⟨b, H0, rfl, rfl⟩
  cases b with
  | false =>
    go_wp2
    go_ret
    exact ⟨by rw [cfgE_f (by simp only [cfgOK, H0.out, Bool.false_and])]; rfl, ba _ _⟩
  | true =>
    go_wp2_with fail
    refine (vwithin_b _ _ _).mono ?_
    rintro e w1 ⟨b, H1, rfl, rfl⟩
    cases b with
    | false =>
      go_wp2
      go_ret
      exact ⟨by rw [cfgE_f (by simp only [cfgOK, H0.out, H1.out, Bool.false_and, Bool.and_false])]; rfl, ba _ _⟩
    | true =>
      go_wp2_with fail
      refine (vwithin_b _ _ _).mono ?_
      rintro e w1 ⟨b, H2, rfl, rfl⟩
      cases b with
      | false =>
        go_wp2
        go_ret
        exact ⟨by rw [cfgE_f (by simp only [cfgOK, H0.out, H1.out, H2.out, Bool.false_and, Bool.and_false, Bool.true_and])]; rfl, ba _ _⟩
      | true =>
        go_wp2_with fail
        refine (vwithin_b _ _ _).mono ?_
        rintro e w1 ⟨b, H3, rfl, rfl⟩
        cases b with
        | false =>
          go_wp2
          go_ret
          exact ⟨by rw [cfgE_f (by simp only [cfgOK, H0.out, H1.out, H2.out, H3.out, Bool.false_and, Bool.and_false, Bool.true_and])]; rfl, ba _ _⟩
        | true =>
          go_wp2_with fail
          refine (vwithin_b _ _ _).mono ?_
          rintro e w1 ⟨b, H4, rfl, rfl⟩
          cases b with
          | false =>
            go_wp2
            go_ret
            exact ⟨by rw [cfgE_f (by simp only [cfgOK, H0.out, H1.out, H2.out, H3.out, H4.out, Bool.false_and, Bool.and_false, Bool.true_and])]; rfl, ba _ _⟩
          | true =>
            go_wp2_with fail
            refine (vwithin_b _ _ _).mono ?_
            rintro e w1 ⟨b, H5, rfl, rfl⟩
            cases b with
            | false =>
              go_wp2
              go_ret
              exact ⟨by rw [cfgE_f (by simp only [cfgOK, H0.out, H1.out, H2.out, H3.out, H4.out, H5.out, Bool.false_and, Bool.and_false, Bool.true_and])]; rfl, ba _ _⟩
            | true =>
              go_wp2_with fail
              refine (vwithin_b _ _ _).mono ?_
              rintro e w1 ⟨b, H6, rfl, rfl⟩
              cases b with
              | false =>
                go_wp2
                go_ret
                exact ⟨by rw [cfgE_f (by simp only [cfgOK, H0.out, H1.out, H2.out, H3.out, H4.out, H5.out, H6.out, Bool.false_and, Bool.and_false, Bool.true_and])]; rfl, ba _ _⟩
              | true =>
                go_wp2_with fail
                refine (vwithin_b _ _ _).mono ?_
                rintro e w1 ⟨b, H7, rfl, rfl⟩
                cases b with
                | false =>
                  go_wp2
                  go_ret
                  exact ⟨by rw [cfgE_f (by simp only [cfgOK, H0.out, H1.out, H2.out, H3.out, H4.out, H5.out, H6.out, H7.out, Bool.false_and, Bool.and_false, Bool.true_and])]; rfl, ba _ _⟩
                | true =>
                  go_wp2_with fail
                  refine (vwithin_b _ _ _).mono ?_
                  rintro e w1 ⟨b, H8, rfl, rfl⟩
                  cases b with
                  | false =>
                    go_wp2
                    go_ret
                    exact ⟨by rw [cfgE_f (by simp only [cfgOK, H0.out, H1.out, H2.out, H3.out, H4.out, H5.out, H6.out, H7.out, H8.out, Bool.false_and, Bool.and_false, Bool.true_and])]; rfl, ba _ _⟩
                  | true =>
                    go_wp2_with fail
                    refine (vwithin_b _ _ _).mono ?_
                    rintro e w1 ⟨b, H9, rfl, rfl⟩
                    cases b with
                    | false =>
                      go_wp2
                      go_ret
                      exact ⟨by rw [cfgE_f (by simp only [cfgOK, H0.out, H1.out, H2.out, H3.out, H4.out, H5.out, H6.out, H7.out, H8.out, H9.out, Bool.and_false, Bool.true_and])]; rfl, ba _ _⟩
                    | true =>
                      go_wp2
                      go_ret
                      exact ⟨by rw [cfgE_t (by simp only [cfgOK, H0.out, H1.out, H2.out, H3.out, H4.out, H5.out, H6.out, H7.out, H8.out, H9.out, Bool.and_self])]; rfl, ba _ _⟩
theorem mayWait_yes {w : World} {n : Int} (h1 : 1 ≤ n) (h2 : n ≤ 1024) : Calls Tryz.prog 102 #[.int .i64 n] w fun e w' => e = .returned (.bool true) ∧ w' = w := by
  go_enter Tryz.func102, Tryz.ntmps102
  go_wp2
  go_ret
  exact ⟨rfl, rfl⟩
/-- A backoff's block. -/
def BoB (w : World) (P : Nat) (b m n : Int) : Prop := w.heap[P]? = some (.cells #[.int .i64 b, .int .i64 m, .int .i64 n] 170 (0, 0))
variable {w : World} {P : Nat} {b m n : Int}
theorem BoB.c0 (h : BoB w P b m n) : w.cell? ⟨P, 0, none⟩ = some (.int .i64 b) := by rw [cell_at h]; rfl
theorem BoB.c1 (h : BoB w P b m n) : w.cell? ⟨P, 1, none⟩ = some (.int .i64 m) := by rw [cell_at h]; rfl
theorem BoB.c2 (h : BoB w P b m n) : w.cell? ⟨P, 2, none⟩ = some (.int .i64 n) := by rw [cell_at h]; rfl
theorem BoB.free (h : BoB w P b m n) (j : Nat) : w.frozen? ⟨P, j, none⟩ = false := free_at h j
theorem BoB.set2 (h : BoB w P b m n) (k : Int) : BoB (w.setCell ⟨P, 2, none⟩ (.int .i64 k)) P b m k := by
  unfold BoB; rw [heap_setCell_same h]; rfl
theorem NewBackoff_ok {w : World} {b m : Int} (h1 : 1 ≤ b) (h2 : b ≤ m) (h3 : m ≤ 1024) :
    Calls Tryz.prog 65 #[.int .i64 b, .int .i64 m] w fun e w' => ∃ P, e = .returned (.tuple #[.pointer (some ⟨P, 0, none⟩), .int .i64 0]) ∧ Below w.heap.size w w' ∧ w.heap.size ≤ P ∧ BoB w' P b m b := by
  have h4 : b ≤ 1024 := by omega
  go_enter Tryz.func65, Tryz.ntmps65
  go_wp2_with fail
  refine (mayWait_yes h1 h4).mono ?_
  rintro e w1 ⟨rfl, rfl⟩
  go_wp2
  go_ret2
  exact ⟨_, rfl, ba _ _, Nat.le_refl _, heap_alloc_new _ _⟩
theorem Reset_any {w : World} {P : Nat} {b m n : Int} (h : BoB w P b m n) : Calls Tryz.prog 129 #[.pointer (some ⟨P, 0, none⟩)] w fun e w' => e = .returned (.tuple #[]) ∧ BoB w' P b m b ∧ Fr [P] w w' := by
  have c0 := h.c0
  have c2 := h.c2
  have f2 := h.free 2
  have N := hid (h.set2 b)
  clear h
  go_enter Tryz.func129, Tryz.ntmps129
  go_wp2
  go_end0
  exact ⟨rfl, N.out, Fr.setCell _ _ _ _⟩
theorem Next_any {w : World} {P : Nat} {b m n : Int} (h : BoB w P b m n) (h1 : 1 ≤ n) (h2 : n ≤ m) (h3 : m ≤ 1024) : Calls Tryz.prog 118 #[.pointer (some ⟨P, 0, none⟩)] w fun e w' => e = .returned (.int .i64 n) ∧ BoB w' P b m (min (2 * n) m) ∧ Fr [P] w w' := by
  have c1 := h.c1
  have c2 := h.c2
  have f2 := h.free 2
  have N1 := hid (h.set2 (min (2 * n) m))
  clear h
  have hw : IntKind.i64.wrap (2 * n) = 2 * n := by simp [IntKind.wrap, IntKind.bits, IntKind.signed]; omega
  go_enter Tryz.func118, Tryz.ntmps118
  go_wp2
  go_ret
  exact ⟨rfl, N1.out, Fr.setCell _ _ _ _⟩

theorem primary_any {w : World} (n v : Int) (hn : n = 3 ∨ n = 5 ∨ n = 7) (hv : 0 ≤ v) : Calls Tryz.prog 213 #[.int .i64 n, .int .i64 v] w fun e w' => e = .returned (.int .i64 (v.tmod n)) ∧ w' = w := by
  have h47 : Hid (∀ W : World, Calls Tryz.prog 63 #[.int .i64 n] W fun e w' => e = .returned (.bool true) ∧ w' = W) := hid (fun W => by
    have := vfleet_any (w := W) n
    rw [show fl n = true by rcases hn with rfl | rfl | rfl <;> rfl] at this
    exact this)
  have e1 : decide (v < 0) = false := by simpa using hv
  have n0 : n ≠ 0 := by omega
  have n1 : n ≠ -1 := by omega
  clear hn hv
  go_enter Tryz.func213, Tryz.ntmps213
  go_wp2_with (go_at_call 63; refine (h47.out _).mono ?_; rintro e w' ⟨rfl, rfl⟩)
  go_ret
  exact ⟨rfl, rfl⟩
end Go.Proofs.YtdhkdniddjnigaaGreatDoor

namespace Go.Proofs.YtdhkdniddjnigaaGreatDoor
open Go.RowKit
set_option linter.unusedVariables false

/-- What waits. -/
structure Wt where
  num : Int
  wts : Bool
  ok : Int
  onm : ByteArray
  otx : ByteArray
  on : Int
  om : Int
  left : Int
  pb : Nat
/-- A client. -/
structure Px where
  n : Int
  id : Int
  view : Int
  seen : Int
  rq : Wt
  qu : Wt
  who : Int
  least : Int
  again : Int
def Px.cells (x : Px) : List Value := [.int .i64 x.n, .int .i64 x.id, .int .i64 x.view, .int .i64 x.seen, .int .i64 x.rq.num, .bool x.rq.wts, .int .i64 x.rq.ok, .string x.rq.onm, .string x.rq.otx, .int .i64 x.rq.on, .int .i64 x.rq.om, .int .i64 x.rq.left, .pointer (some ⟨x.rq.pb, 0, none⟩), .int .i64 x.qu.num, .bool x.qu.wts, .int .i64 x.qu.ok, .string x.qu.onm, .string x.qu.otx, .int .i64 x.qu.on, .int .i64 x.qu.om, .int .i64 x.qu.left, .pointer (some ⟨x.qu.pb, 0, none⟩), .int .i64 x.who, .int .i64 x.least, .int .i64 x.again]
/-- A backoff. -/
abbrev boC (p : Nat) (b m n : Int) : Comp := blkC p [.int .i64 b, .int .i64 m, .int .i64 n] 170
theorem All.bo {p : Nat} {b m n : Int} {cs : List Comp} {w w' : World} {n' : Int} (h : All (boC p b m n :: cs) w) (h1 : BoB w' p b m n') (h2 : Fr [p] w w') : All (boC p b m n' :: cs) w' := by
  refine h.turn h2 (blkC_good _ _ _) h1 (fun k hk => Or.inl hk) (fun k hk => ?_)
  have : k = p := by simpa [blkC] using hk
  subst this
  exact Nat.lt_of_lt_of_le (h.1.2.2 k (by simp [blkC])) h2.size
theorem next53 {p : Nat} {b m n : Int} {cs : List Comp} {w : World} (h : All (boC p b m n :: cs) w) (h1 : 1 ≤ n) (h2 : n ≤ m) (h3 : m ≤ 1024) : Calls Tryz.prog 118 #[.pointer (some ⟨p, 0, none⟩)] w fun e w' => e = .returned (.int .i64 n) ∧ All (boC p b m (min (2 * n) m) :: cs) w' :=
  (Next_any h.1.2.1 h1 h2 h3).mono fun e w' ⟨a, b, c⟩ => ⟨a, h.bo b c⟩
theorem reset84 {p : Nat} {b m n : Int} {cs : List Comp} {w : World} (h : All (boC p b m n :: cs) w) : Calls Tryz.prog 129 #[.pointer (some ⟨p, 0, none⟩)] w fun e w' => e = .returned (.tuple #[]) ∧ All (boC p b m b :: cs) w' :=
  (Reset_any h.1.2.1).mono fun e w' ⟨a, b, c⟩ => ⟨a, h.bo b c⟩
/-- A client, and its two patiences. -/
def pxL (P : Nat) (x : Px) (b m n1 n2 : Int) : List Comp := [blkC P x.cells 111, boC x.rq.pb b m n1, boC x.qu.pb b m n2]
theorem All.px {P : Nat} {x : Px} {b m n1 n2 : Int} {cs : List Comp} {w : World} (h : All (pxL P x b m n1 n2 ++ cs) w) : w.heap[P]? = some (.cells x.cells.toArray 111 (0, 0)) := h.1.2.1

theorem awaitsR {P : Nat} {x : Px} {b m n1 n2 : Int} {cs : List Comp} {w : World} (h : All (pxL P x b m n1 n2 ++ cs) w) (k : Int) : Calls Tryz.prog 57 #[.pointer (some ⟨P, 4, none⟩), .int .i64 k] w fun e w' => e = .returned (.bool (x.rq.wts && (x.rq.num == k))) ∧ w' = w := by
  have c4 : w.cell? ⟨P, 4, none⟩ = some (.int .i64 x.rq.num) := by rw [cell_at h.px]; rfl
  have c5 : w.cell? ⟨P, 5, none⟩ = some (.bool x.rq.wts) := by rw [cell_at h.px]; rfl
  clear h
  obtain ⟨b1, hb1⟩ : ∃ b1, Hid (b1 = x.rq.wts) := ⟨_, hid rfl⟩
  rw [← hb1.out] at c5 ⊢
  clear hb1
  cases b1
  all_goals
    go_enter Tryz.func57, Tryz.ntmps57
    go_wp2
    go_ret
    exact ⟨rfl, rfl⟩

theorem tickR_no {P : Nat} {x : Px} {b m n1 n2 : Int} {cs : List Comp} {w : World} (h : All (pxL P x b m n1 n2 ++ cs) w) (hw : x.rq.wts = false) : Calls Tryz.prog 77 #[.pointer (some ⟨P, 4, none⟩)] w fun e w' => e = .returned (.bool false) ∧ w' = w := by
  have c5 : w.cell? ⟨P, 5, none⟩ = some (.bool x.rq.wts) := by rw [cell_at h.px]; rfl
  rw [hw] at c5
  clear h hw
  go_enter Tryz.func77, Tryz.ntmps77
  go_wp2
  go_ret
  exact ⟨rfl, rfl⟩
theorem tickR_less {P : Nat} {x : Px} {b m n1 n2 : Int} {cs : List Comp} {w : World} (h : All (pxL P x b m n1 n2 ++ cs) w) (hw : x.rq.wts = true) (hl : 1 < x.rq.left) (hl2 : x.rq.left ≤ 1024) : Calls Tryz.prog 77 #[.pointer (some ⟨P, 4, none⟩)] w fun e w' => e = .returned (.bool false) ∧ All (pxL P { x with rq := { x.rq with left := x.rq.left - 1 } } b m n1 n2 ++ cs) w' := by
  have c5 : w.cell? ⟨P, 5, none⟩ = some (.bool x.rq.wts) := by rw [cell_at h.px]; rfl
  have c11 : w.cell? ⟨P, 11, none⟩ = some (.int .i64 x.rq.left) := by rw [cell_at h.px]; rfl
  rw [hw] at c5
  have f7 := free_at h.px 11
  have A := hid (h.setBlk 11 (.int .i64 (x.rq.left - 1)))
  have e1 : IntKind.i64.wrap (x.rq.left - 1) = x.rq.left - 1 := by rw [IntKind.wrap_i64]; omega
  have e2 : decide (1 < x.rq.left) = true := by simpa using hl
  have c9 : (w.setCell ⟨P, 11, none⟩ (.int .i64 (x.rq.left - 1))).cell? ⟨P, 11, none⟩ = some (.int .i64 (x.rq.left - 1)) := by rw [cell_at A.out.1.2.1]; rfl
  clear h hw hl2
  go_enter Tryz.func77, Tryz.ntmps77
  go_wp2
  go_ret
  exact ⟨rfl, A.out⟩
theorem tickR_yes {P : Nat} {x : Px} {b m n1 n2 : Int} {cs : List Comp} {w : World} (h : All (pxL P x b m n1 n2 ++ cs) w) (hw : x.rq.wts = true) (hl : x.rq.left = 1) (h1 : 1 ≤ n1) (h2 : n1 ≤ m) (h3 : m ≤ 1024) : Calls Tryz.prog 77 #[.pointer (some ⟨P, 4, none⟩)] w fun e w' => e = .returned (.bool true) ∧ All (pxL P { x with rq := { x.rq with left := n1 } } b m (min (2 * n1) m) n2 ++ cs) w' := by
  have c5 : w.cell? ⟨P, 5, none⟩ = some (.bool x.rq.wts) := by rw [cell_at h.px]; rfl
  have c11 : w.cell? ⟨P, 11, none⟩ = some (.int .i64 x.rq.left) := by rw [cell_at h.px]; rfl
  have c12 : w.cell? ⟨P, 12, none⟩ = some (.pointer (some ⟨x.rq.pb, 0, none⟩)) := by rw [cell_at h.px]; rfl
  rw [hw] at c5
  rw [hl] at c11
  have f7 := free_at h.px 11
  have A := h.setBlk 11 (.int .i64 0)
  have c9 : (w.setCell ⟨P, 11, none⟩ (.int .i64 0)).cell? ⟨P, 11, none⟩ = some (.int .i64 0) := by rw [cell_at A.1.2.1]; rfl
  have c10 : (w.setCell ⟨P, 11, none⟩ (.int .i64 0)).cell? ⟨P, 12, none⟩ = some (.pointer (some ⟨x.rq.pb, 0, none⟩)) := by rw [cell_at A.1.2.1]; rfl
  have f10 := free_at A.1.2.1 11
  have N := hid (next53 A.swap h1 h2 h3)
  have c9 := hid c9
  have c10 := hid c10
  have f10 := hid f10
  clear h hw hl h1 h2 h3 A
  go_enter Tryz.func77, Tryz.ntmps77
  go_upto_region 4 with fail
  generalize w.setCell ⟨P, 11, none⟩ (.int .i64 0) = w1 at c9 c10 f10 N ⊢
  clear c5 c11 c12 f7
  have c9 := c9.out
  have c10 := c10.out
  have f10 := f10.out
  go_wp2_with fail
  refine N.out.mono ?_
  rintro e w2 ⟨rfl, A2⟩
  have A3 := A2.swap
  have d7 : w2.cell? ⟨P, 11, none⟩ = some (.int .i64 0) := by rw [cell_at A3.1.2.1]; rfl
  have g7 := free_at A3.1.2.1 11
  have A4 := hid (A3.setBlk 11 (.int .i64 n1))
  clear A2 A3 N c9 c10 f10
  go_wp2
  go_ret
  exact ⟨rfl, A4.out⟩

theorem awaitsQ {P : Nat} {x : Px} {b m n1 n2 : Int} {cs : List Comp} {w : World} (h : All (pxL P x b m n1 n2 ++ cs) w) (k : Int) : Calls Tryz.prog 57 #[.pointer (some ⟨P, 13, none⟩), .int .i64 k] w fun e w' => e = .returned (.bool (x.qu.wts && (x.qu.num == k))) ∧ w' = w := by
  have c13 : w.cell? ⟨P, 13, none⟩ = some (.int .i64 x.qu.num) := by rw [cell_at h.px]; rfl
  have c14 : w.cell? ⟨P, 14, none⟩ = some (.bool x.qu.wts) := by rw [cell_at h.px]; rfl
  clear h
  obtain ⟨b1, hb1⟩ : ∃ b1, Hid (b1 = x.qu.wts) := ⟨_, hid rfl⟩
  rw [← hb1.out] at c14 ⊢
  clear hb1
  cases b1
  all_goals
    go_enter Tryz.func57, Tryz.ntmps57
    go_wp2
    go_ret
    exact ⟨rfl, rfl⟩

theorem tickQ_no {P : Nat} {x : Px} {b m n1 n2 : Int} {cs : List Comp} {w : World} (h : All (pxL P x b m n1 n2 ++ cs) w) (hw : x.qu.wts = false) : Calls Tryz.prog 77 #[.pointer (some ⟨P, 13, none⟩)] w fun e w' => e = .returned (.bool false) ∧ w' = w := by
  have c14 : w.cell? ⟨P, 14, none⟩ = some (.bool x.qu.wts) := by rw [cell_at h.px]; rfl
  rw [hw] at c14
  clear h hw
  go_enter Tryz.func77, Tryz.ntmps77
  go_wp2
  go_ret
  exact ⟨rfl, rfl⟩
theorem tickQ_less {P : Nat} {x : Px} {b m n1 n2 : Int} {cs : List Comp} {w : World} (h : All (pxL P x b m n1 n2 ++ cs) w) (hw : x.qu.wts = true) (hl : 1 < x.qu.left) (hl2 : x.qu.left ≤ 1024) : Calls Tryz.prog 77 #[.pointer (some ⟨P, 13, none⟩)] w fun e w' => e = .returned (.bool false) ∧ All (pxL P { x with qu := { x.qu with left := x.qu.left - 1 } } b m n1 n2 ++ cs) w' := by
  have c14 : w.cell? ⟨P, 14, none⟩ = some (.bool x.qu.wts) := by rw [cell_at h.px]; rfl
  have c20 : w.cell? ⟨P, 20, none⟩ = some (.int .i64 x.qu.left) := by rw [cell_at h.px]; rfl
  rw [hw] at c14
  have f7 := free_at h.px 20
  have A := hid (h.setBlk 20 (.int .i64 (x.qu.left - 1)))
  have e1 : IntKind.i64.wrap (x.qu.left - 1) = x.qu.left - 1 := by rw [IntKind.wrap_i64]; omega
  have e2 : decide (1 < x.qu.left) = true := by simpa using hl
  have c9 : (w.setCell ⟨P, 20, none⟩ (.int .i64 (x.qu.left - 1))).cell? ⟨P, 20, none⟩ = some (.int .i64 (x.qu.left - 1)) := by rw [cell_at A.out.1.2.1]; rfl
  clear h hw hl2
  go_enter Tryz.func77, Tryz.ntmps77
  go_wp2
  go_ret
  exact ⟨rfl, A.out⟩
theorem tickQ_yes {P : Nat} {x : Px} {b m n1 n2 : Int} {cs : List Comp} {w : World} (h : All (pxL P x b m n1 n2 ++ cs) w) (hw : x.qu.wts = true) (hl : x.qu.left = 1) (h1 : 1 ≤ n2) (h2 : n2 ≤ m) (h3 : m ≤ 1024) : Calls Tryz.prog 77 #[.pointer (some ⟨P, 13, none⟩)] w fun e w' => e = .returned (.bool true) ∧ All (pxL P { x with qu := { x.qu with left := n2 } } b m n1 (min (2 * n2) m) ++ cs) w' := by
  have c14 : w.cell? ⟨P, 14, none⟩ = some (.bool x.qu.wts) := by rw [cell_at h.px]; rfl
  have c20 : w.cell? ⟨P, 20, none⟩ = some (.int .i64 x.qu.left) := by rw [cell_at h.px]; rfl
  have c21 : w.cell? ⟨P, 21, none⟩ = some (.pointer (some ⟨x.qu.pb, 0, none⟩)) := by rw [cell_at h.px]; rfl
  rw [hw] at c14
  rw [hl] at c20
  have f7 := free_at h.px 20
  have A := h.setBlk 20 (.int .i64 0)
  have c9 : (w.setCell ⟨P, 20, none⟩ (.int .i64 0)).cell? ⟨P, 20, none⟩ = some (.int .i64 0) := by rw [cell_at A.1.2.1]; rfl
  have c10 : (w.setCell ⟨P, 20, none⟩ (.int .i64 0)).cell? ⟨P, 21, none⟩ = some (.pointer (some ⟨x.qu.pb, 0, none⟩)) := by rw [cell_at A.1.2.1]; rfl
  have f10 := free_at A.1.2.1 20
  have N := hid (next53 (A.perm (List.perm_middle (l₁ := [blkC P (x.cells.set 20 (.int .i64 0)) 111, boC x.rq.pb b m n1]))) h1 h2 h3)
  have c9 := hid c9
  have c10 := hid c10
  have f10 := hid f10
  clear h hw hl h1 h2 h3 A
  go_enter Tryz.func77, Tryz.ntmps77
  go_upto_region 4 with fail
  generalize w.setCell ⟨P, 20, none⟩ (.int .i64 0) = w1 at c9 c10 f10 N ⊢
  clear c14 c20 c21 f7
  have c9 := c9.out
  have c10 := c10.out
  have f10 := f10.out
  go_wp2_with fail
  refine N.out.mono ?_
  rintro e w2 ⟨rfl, A2⟩
  have A3 := (A2.swap).perm (List.Perm.cons _ (List.Perm.swap _ _ _))
  have d7 : w2.cell? ⟨P, 20, none⟩ = some (.int .i64 0) := by rw [cell_at A3.1.2.1]; rfl
  have g7 := free_at A3.1.2.1 20
  have A4 := hid (A3.setBlk 20 (.int .i64 n2))
  clear A2 A3 N c9 c10 f10
  go_wp2
  go_ret
  exact ⟨rfl, A4.out⟩
end Go.Proofs.YtdhkdniddjnigaaGreatDoor

namespace Go.Proofs.YtdhkdniddjnigaaGreatDoor
open Go.RowKit
set_option linter.unusedVariables false

theorem begR_busy {P : Nat} {x : Px} {b m n1 n2 : Int} {cs : List Comp} {w : World} (h : All (pxL P x b m n1 n2 ++ cs) w) (hw : x.rq.wts = true) (v : Value) (hv : ∃ k nm tx a d, v = opV k nm tx a d) : Calls Tryz.prog 212 #[.pointer (some ⟨P, 4, none⟩), v] w fun e w' => e = .returned (.int .i64 141) ∧ All (pxL P x b m n1 n2 ++ cs) w' := by
  obtain ⟨k, nm, tx, a, d, rfl⟩ := hv
  have c5 : w.cell? ⟨P, 5, none⟩ = some (.bool x.rq.wts) := by rw [cell_at h.px]; rfl
  rw [hw] at c5
  have hP : P < w.heap.size := h.1.2.2 P (by simp [blkC])
  have A := hid (h.alloc (.cells #[.int .i64 k, .string nm, .string tx, .int .i64 a, .int .i64 d] 42))
  clear h hw
  go_enter Tryz.func212, Tryz.ntmps212
  go_wp2
  go_ret
  exact ⟨rfl, A.out⟩
theorem begR_end {P : Nat} {x : Px} {b m n1 n2 : Int} {cs : List Comp} {w : World} (h : All (pxL P x b m n1 n2 ++ cs) w) (hw : x.rq.wts = false) (hn : x.rq.num = 1099511627776) (v : Value) (hv : ∃ k nm tx a d, v = opV k nm tx a d) : Calls Tryz.prog 212 #[.pointer (some ⟨P, 4, none⟩), v] w fun e w' => e = .returned (.int .i64 142) ∧ All (pxL P x b m n1 n2 ++ cs) w' := by
  obtain ⟨k, nm, tx, a, d, rfl⟩ := hv
  have c4 : w.cell? ⟨P, 4, none⟩ = some (.int .i64 x.rq.num) := by rw [cell_at h.px]; rfl
  have c5 : w.cell? ⟨P, 5, none⟩ = some (.bool x.rq.wts) := by rw [cell_at h.px]; rfl
  rw [hw] at c5
  rw [hn] at c4
  have hP : P < w.heap.size := h.1.2.2 P (by simp [blkC])
  have A := hid (h.alloc (.cells #[.int .i64 k, .string nm, .string tx, .int .i64 a, .int .i64 d] 42))
  clear h hw hn
  go_enter Tryz.func212, Tryz.ntmps212
  go_wp2
  go_ret
  exact ⟨rfl, A.out⟩
set_option maxHeartbeats 1600000 in
set_option maxRecDepth 1000000 in
theorem begR_ok {P : Nat} {x : Px} {b m n1 n2 : Int} {cs : List Comp} {w : World} (h : All (pxL P x b m n1 n2 ++ cs) w) (hw : x.rq.wts = false) (hn : 0 ≤ x.rq.num) (hn2 : x.rq.num < 1099511627776) (h1 : 1 ≤ n1) (h2 : n1 ≤ m) (h3 : m ≤ 1024) (k : Int) (nm tx : ByteArray) (a d : Int) : Calls Tryz.prog 212 #[.pointer (some ⟨P, 4, none⟩), opV k nm tx a d] w fun e w' => e = .returned (.int .i64 0) ∧ All (pxL P { x with rq := { x.rq with num := x.rq.num + 1, wts := true, ok := k, onm := nm, otx := tx, on := a, om := d, left := n1 } } b m (min (2 * n1) m) n2 ++ cs) w' := by
  have hP : P < w.heap.size := h.1.2.2 P (by simp [blkC])
  have c4 : w.cell? ⟨P, 4, none⟩ = some (.int .i64 x.rq.num) := by rw [cell_at h.px]; rfl
  have c5 : w.cell? ⟨P, 5, none⟩ = some (.bool x.rq.wts) := by rw [cell_at h.px]; rfl
  rw [hw] at c5
  have f0 := free_at h.px 4
  have A := (h.addBlk [.int .i64 k, .string nm, .string tx, .int .i64 a, .int .i64 d] 42).swap
  obtain ⟨H, hH⟩ : ∃ H, Hid (H = w.heap.size) := ⟨_, hid rfl⟩
  rw [← hH.out] at A
  have A1 := hid (A.setBlk 4 (.int .i64 (x.rq.num + 1)))
  have e1 : IntKind.i64.wrap (x.rq.num + 1) = x.rq.num + 1 := by rw [IntKind.wrap_i64]; omega
  have e2 : (x.rq.num == 1099511627776) = false := by simp; omega
  have H1 := hid h1
  have H2 := hid h2
  have H3 := hid h3
  have hw := hid hw
  clear h hn hn2 A h1 h2 h3
  go_enter Tryz.func212, Tryz.ntmps212
  go_upto_region 6 with fail
  rw [← hH.out]
  have A1 : Hid (All (blkC P (x.cells.set 4 (.int .i64 (x.rq.num + 1))) 111 :: blkC H [.int .i64 k, .string nm, .string tx, .int .i64 a, .int .i64 d] 42 :: (boC x.rq.pb b m n1 :: boC x.qu.pb b m n2 :: cs)) ((w.setCell ⟨P, 4, none⟩ (.int .i64 (x.rq.num + 1))).alloc (.cells #[.int .i64 k, .string nm, .string tx, .int .i64 a, .int .i64 d] 42))) := hid (by rw [← World.setCell_alloc_past _ _ _ _ hP]; exact A1.out)
  generalize (w.setCell ⟨P, 4, none⟩ (.int .i64 (x.rq.num + 1))).alloc (.cells #[.int .i64 k, .string nm, .string tx, .int .i64 a, .int .i64 d] 42) = w1 at A1 ⊢
  clear c4 c5 f0
  have SF : Hid (∀ W Z X Y cs', Z[12]? = some (.pointer (some ⟨x.rq.pb, 0, none⟩)) → All (blkC P Z 111 :: blkC H [.int .i64 k, .string nm, .string tx, .int .i64 a, .int .i64 d] 42 :: X :: Y :: cs') W → W.cell? ⟨H, 0, none⟩ = some (.int .i64 k) ∧ W.cell? ⟨H, 1, none⟩ = some (.string nm) ∧ W.cell? ⟨H, 2, none⟩ = some (.string tx) ∧ W.cell? ⟨H, 3, none⟩ = some (.int .i64 a) ∧ W.cell? ⟨H, 4, none⟩ = some (.int .i64 d) ∧ W.cell? ⟨P, 12, none⟩ = some (.pointer (some ⟨x.rq.pb, 0, none⟩))) := hid (fun W Z X Y cs' hZ hW => by
    refine ⟨?_, ?_, ?_, ?_, ?_, ?_⟩
    · rw [cell_at hW.tail.1.2.1]; rfl
    · rw [cell_at hW.tail.1.2.1]; rfl
    · rw [cell_at hW.tail.1.2.1]; rfl
    · rw [cell_at hW.tail.1.2.1]; rfl
    · rw [cell_at hW.tail.1.2.1]; rfl
    · rw [cell_at hW.1.2.1]; simpa using hZ)
  have A2 := hid A1.out.drew
  have p0 := hid (SF.out _ _ _ _ _ rfl A2.out)
  have N := hid (next53 (A2.out.perm (List.perm_middle (l₁ := [blkC P (x.cells.set 4 (.int .i64 (x.rq.num + 1))) 111, blkC H [.int .i64 k, .string nm, .string tx, .int .i64 a, .int .i64 d] 42]))) H1.out H2.out H3.out)
  go_region_held3 (fun W => W.cell? ⟨H, 0, none⟩ = some (.int .i64 k) ∧ W.cell? ⟨H, 1, none⟩ = some (.string nm) ∧ W.cell? ⟨H, 2, none⟩ = some (.string tx) ∧ W.cell? ⟨H, 3, none⟩ = some (.int .i64 a) ∧ W.cell? ⟨H, 4, none⟩ = some (.int .i64 d) ∧ W.cell? ⟨P, 12, none⟩ = some (.pointer (some ⟨x.rq.pb, 0, none⟩))) (first | with_reducible exact p0.out | with_reducible exact p1.out | with_reducible exact p2.out | with_reducible exact p3.out | with_reducible exact p4.out)
    (first
      | (go_at_call 118; refine N.out.mono ?_; rintro e w2 ⟨rfl, hw2⟩; have A3 := hid (hw2.perm (List.perm_middle (l₁ := [blkC P (x.cells.set 4 (.int .i64 (x.rq.num + 1))) 111, blkC H [.int .i64 k, .string nm, .string tx, .int .i64 a, .int .i64 d] 42])).symm); have p1 := hid (SF.out _ _ _ _ _ rfl A3.out); have d5 : w2.cell? ⟨P, 5, none⟩ = some (.bool false) := (by rw [cell_at A3.out.1.2.1, ← hw.out]; rfl); have g5 : w2.frozen? ⟨P, 5, none⟩ = false := free_at A3.out.1.2.1 5; have d6 : w2.cell? ⟨P, 6, none⟩ = some (.int .i64 x.rq.ok) := (by rw [cell_at A3.out.1.2.1]; rfl); have g6 : w2.frozen? ⟨P, 6, none⟩ = false := free_at A3.out.1.2.1 6; have d7 : w2.cell? ⟨P, 7, none⟩ = some (.string x.rq.onm) := (by rw [cell_at A3.out.1.2.1]; rfl); have g7 : w2.frozen? ⟨P, 7, none⟩ = false := free_at A3.out.1.2.1 7; have d8 : w2.cell? ⟨P, 8, none⟩ = some (.string x.rq.otx) := (by rw [cell_at A3.out.1.2.1]; rfl); have g8 : w2.frozen? ⟨P, 8, none⟩ = false := free_at A3.out.1.2.1 8; have d9 : w2.cell? ⟨P, 9, none⟩ = some (.int .i64 x.rq.on) := (by rw [cell_at A3.out.1.2.1]; rfl); have g9 : w2.frozen? ⟨P, 9, none⟩ = false := free_at A3.out.1.2.1 9; have d10 : w2.cell? ⟨P, 10, none⟩ = some (.int .i64 x.rq.om) := (by rw [cell_at A3.out.1.2.1]; rfl); have g10 : w2.frozen? ⟨P, 10, none⟩ = false := free_at A3.out.1.2.1 10; have d11 : w2.cell? ⟨P, 11, none⟩ = some (.int .i64 x.rq.left) := (by rw [cell_at A3.out.1.2.1]; rfl); have g11 : w2.frozen? ⟨P, 11, none⟩ = false := free_at A3.out.1.2.1 11; have A4 := hid (A3.out.setBlk 5 (.bool true)); have p2 := hid (SF.out _ _ _ _ _ rfl A4.out); have A5 := hid (((((A4.out.setBlk 6 (.int .i64 k)).setBlk 7 (.string nm)).setBlk 8 (.string tx)).setBlk 9 (.int .i64 a)).setBlk 10 (.int .i64 d)); have p3 := hid (SF.out _ _ _ _ _ rfl A5.out); have A6 := hid (A5.out.setBlk 11 (.int .i64 n1)); have p4 := hid (SF.out _ _ _ _ _ rfl A6.out); clear hw2))
  have A7 := hid (A6.out.swap.tail)
  generalize ((((((w2.setCell ⟨P, 5, none⟩ (.bool true)).setCell ⟨P, 6, none⟩ (.int .i64 k)).setCell ⟨P, 7, none⟩ (.string nm)).setCell ⟨P, 8, none⟩ (.string tx)).setCell ⟨P, 9, none⟩ (.int .i64 a)).setCell ⟨P, 10, none⟩ (.int .i64 d)).setCell ⟨P, 11, none⟩ (.int .i64 n1) = w3 at A7 ⊢
  clear p0 p1 p2 p3 p4 A6 A5 A4 A3 A2 A1 SF N d5 g5 d6 g6 d7 g7 d8 g8 d9 g9 d10 g10 d11 g11
  go_wp2
  go_ret
  exact ⟨rfl, A7.out⟩

theorem begQ_busy {P : Nat} {x : Px} {b m n1 n2 : Int} {cs : List Comp} {w : World} (h : All (pxL P x b m n1 n2 ++ cs) w) (hw : x.qu.wts = true) (v : Value) (hv : ∃ k nm tx a d, v = opV k nm tx a d) : Calls Tryz.prog 212 #[.pointer (some ⟨P, 13, none⟩), v] w fun e w' => e = .returned (.int .i64 141) ∧ All (pxL P x b m n1 n2 ++ cs) w' := by
  obtain ⟨k, nm, tx, a, d, rfl⟩ := hv
  have c14 : w.cell? ⟨P, 14, none⟩ = some (.bool x.qu.wts) := by rw [cell_at h.px]; rfl
  rw [hw] at c14
  have hP : P < w.heap.size := h.1.2.2 P (by simp [blkC])
  have A := hid (h.alloc (.cells #[.int .i64 k, .string nm, .string tx, .int .i64 a, .int .i64 d] 42))
  clear h hw
  go_enter Tryz.func212, Tryz.ntmps212
  go_wp2
  go_ret
  exact ⟨rfl, A.out⟩
theorem begQ_end {P : Nat} {x : Px} {b m n1 n2 : Int} {cs : List Comp} {w : World} (h : All (pxL P x b m n1 n2 ++ cs) w) (hw : x.qu.wts = false) (hn : x.qu.num = 1099511627776) (v : Value) (hv : ∃ k nm tx a d, v = opV k nm tx a d) : Calls Tryz.prog 212 #[.pointer (some ⟨P, 13, none⟩), v] w fun e w' => e = .returned (.int .i64 142) ∧ All (pxL P x b m n1 n2 ++ cs) w' := by
  obtain ⟨k, nm, tx, a, d, rfl⟩ := hv
  have c13 : w.cell? ⟨P, 13, none⟩ = some (.int .i64 x.qu.num) := by rw [cell_at h.px]; rfl
  have c14 : w.cell? ⟨P, 14, none⟩ = some (.bool x.qu.wts) := by rw [cell_at h.px]; rfl
  rw [hw] at c14
  rw [hn] at c13
  have hP : P < w.heap.size := h.1.2.2 P (by simp [blkC])
  have A := hid (h.alloc (.cells #[.int .i64 k, .string nm, .string tx, .int .i64 a, .int .i64 d] 42))
  clear h hw hn
  go_enter Tryz.func212, Tryz.ntmps212
  go_wp2
  go_ret
  exact ⟨rfl, A.out⟩
set_option maxHeartbeats 1600000 in
set_option maxRecDepth 1000000 in
theorem begQ_ok {P : Nat} {x : Px} {b m n1 n2 : Int} {cs : List Comp} {w : World} (h : All (pxL P x b m n1 n2 ++ cs) w) (hw : x.qu.wts = false) (hn : 0 ≤ x.qu.num) (hn2 : x.qu.num < 1099511627776) (h1 : 1 ≤ n2) (h2 : n2 ≤ m) (h3 : m ≤ 1024) (k : Int) (nm tx : ByteArray) (a d : Int) : Calls Tryz.prog 212 #[.pointer (some ⟨P, 13, none⟩), opV k nm tx a d] w fun e w' => e = .returned (.int .i64 0) ∧ All (pxL P { x with qu := { x.qu with num := x.qu.num + 1, wts := true, ok := k, onm := nm, otx := tx, on := a, om := d, left := n2 } } b m n1 (min (2 * n2) m) ++ cs) w' := by
  have hP : P < w.heap.size := h.1.2.2 P (by simp [blkC])
  have c13 : w.cell? ⟨P, 13, none⟩ = some (.int .i64 x.qu.num) := by rw [cell_at h.px]; rfl
  have c14 : w.cell? ⟨P, 14, none⟩ = some (.bool x.qu.wts) := by rw [cell_at h.px]; rfl
  rw [hw] at c14
  have f0 := free_at h.px 13
  have A := (h.addBlk [.int .i64 k, .string nm, .string tx, .int .i64 a, .int .i64 d] 42).swap
  obtain ⟨H, hH⟩ : ∃ H, Hid (H = w.heap.size) := ⟨_, hid rfl⟩
  rw [← hH.out] at A
  have A1 := hid (A.setBlk 13 (.int .i64 (x.qu.num + 1)))
  have e1 : IntKind.i64.wrap (x.qu.num + 1) = x.qu.num + 1 := by rw [IntKind.wrap_i64]; omega
  have e2 : (x.qu.num == 1099511627776) = false := by simp; omega
  have H1 := hid h1
  have H2 := hid h2
  have H3 := hid h3
  have hw := hid hw
  clear h hn hn2 A h1 h2 h3
  go_enter Tryz.func212, Tryz.ntmps212
  go_upto_region 6 with fail
  rw [← hH.out]
  have A1 : Hid (All (blkC P (x.cells.set 13 (.int .i64 (x.qu.num + 1))) 111 :: blkC H [.int .i64 k, .string nm, .string tx, .int .i64 a, .int .i64 d] 42 :: (boC x.rq.pb b m n1 :: boC x.qu.pb b m n2 :: cs)) ((w.setCell ⟨P, 13, none⟩ (.int .i64 (x.qu.num + 1))).alloc (.cells #[.int .i64 k, .string nm, .string tx, .int .i64 a, .int .i64 d] 42))) := hid (by rw [← World.setCell_alloc_past _ _ _ _ hP]; exact A1.out)
  generalize (w.setCell ⟨P, 13, none⟩ (.int .i64 (x.qu.num + 1))).alloc (.cells #[.int .i64 k, .string nm, .string tx, .int .i64 a, .int .i64 d] 42) = w1 at A1 ⊢
  clear c13 c14 f0
  have SF : Hid (∀ W Z X Y cs', Z[21]? = some (.pointer (some ⟨x.qu.pb, 0, none⟩)) → All (blkC P Z 111 :: blkC H [.int .i64 k, .string nm, .string tx, .int .i64 a, .int .i64 d] 42 :: X :: Y :: cs') W → W.cell? ⟨H, 0, none⟩ = some (.int .i64 k) ∧ W.cell? ⟨H, 1, none⟩ = some (.string nm) ∧ W.cell? ⟨H, 2, none⟩ = some (.string tx) ∧ W.cell? ⟨H, 3, none⟩ = some (.int .i64 a) ∧ W.cell? ⟨H, 4, none⟩ = some (.int .i64 d) ∧ W.cell? ⟨P, 21, none⟩ = some (.pointer (some ⟨x.qu.pb, 0, none⟩))) := hid (fun W Z X Y cs' hZ hW => by
    refine ⟨?_, ?_, ?_, ?_, ?_, ?_⟩
    · rw [cell_at hW.tail.1.2.1]; rfl
    · rw [cell_at hW.tail.1.2.1]; rfl
    · rw [cell_at hW.tail.1.2.1]; rfl
    · rw [cell_at hW.tail.1.2.1]; rfl
    · rw [cell_at hW.tail.1.2.1]; rfl
    · rw [cell_at hW.1.2.1]; simpa using hZ)
  have A2 := hid A1.out.drew
  have p0 := hid (SF.out _ _ _ _ _ rfl A2.out)
  have N := hid (next53 (A2.out.perm (List.perm_middle (l₁ := [blkC P (x.cells.set 13 (.int .i64 (x.qu.num + 1))) 111, blkC H [.int .i64 k, .string nm, .string tx, .int .i64 a, .int .i64 d] 42, boC x.rq.pb b m n1]))) H1.out H2.out H3.out)
  go_region_held3 (fun W => W.cell? ⟨H, 0, none⟩ = some (.int .i64 k) ∧ W.cell? ⟨H, 1, none⟩ = some (.string nm) ∧ W.cell? ⟨H, 2, none⟩ = some (.string tx) ∧ W.cell? ⟨H, 3, none⟩ = some (.int .i64 a) ∧ W.cell? ⟨H, 4, none⟩ = some (.int .i64 d) ∧ W.cell? ⟨P, 21, none⟩ = some (.pointer (some ⟨x.qu.pb, 0, none⟩))) (first | with_reducible exact p0.out | with_reducible exact p1.out | with_reducible exact p2.out | with_reducible exact p3.out | with_reducible exact p4.out)
    (first
      | (go_at_call 118; refine N.out.mono ?_; rintro e w2 ⟨rfl, hw2⟩; have A3 := hid (hw2.perm (List.perm_middle (l₁ := [blkC P (x.cells.set 13 (.int .i64 (x.qu.num + 1))) 111, blkC H [.int .i64 k, .string nm, .string tx, .int .i64 a, .int .i64 d] 42, boC x.rq.pb b m n1])).symm); have p1 := hid (SF.out _ _ _ _ _ rfl A3.out); have d14 : w2.cell? ⟨P, 14, none⟩ = some (.bool false) := (by rw [cell_at A3.out.1.2.1, ← hw.out]; rfl); have g14 : w2.frozen? ⟨P, 14, none⟩ = false := free_at A3.out.1.2.1 14; have d15 : w2.cell? ⟨P, 15, none⟩ = some (.int .i64 x.qu.ok) := (by rw [cell_at A3.out.1.2.1]; rfl); have g15 : w2.frozen? ⟨P, 15, none⟩ = false := free_at A3.out.1.2.1 15; have d16 : w2.cell? ⟨P, 16, none⟩ = some (.string x.qu.onm) := (by rw [cell_at A3.out.1.2.1]; rfl); have g16 : w2.frozen? ⟨P, 16, none⟩ = false := free_at A3.out.1.2.1 16; have d17 : w2.cell? ⟨P, 17, none⟩ = some (.string x.qu.otx) := (by rw [cell_at A3.out.1.2.1]; rfl); have g17 : w2.frozen? ⟨P, 17, none⟩ = false := free_at A3.out.1.2.1 17; have d18 : w2.cell? ⟨P, 18, none⟩ = some (.int .i64 x.qu.on) := (by rw [cell_at A3.out.1.2.1]; rfl); have g18 : w2.frozen? ⟨P, 18, none⟩ = false := free_at A3.out.1.2.1 18; have d19 : w2.cell? ⟨P, 19, none⟩ = some (.int .i64 x.qu.om) := (by rw [cell_at A3.out.1.2.1]; rfl); have g19 : w2.frozen? ⟨P, 19, none⟩ = false := free_at A3.out.1.2.1 19; have d20 : w2.cell? ⟨P, 20, none⟩ = some (.int .i64 x.qu.left) := (by rw [cell_at A3.out.1.2.1]; rfl); have g20 : w2.frozen? ⟨P, 20, none⟩ = false := free_at A3.out.1.2.1 20; have A4 := hid (A3.out.setBlk 14 (.bool true)); have p2 := hid (SF.out _ _ _ _ _ rfl A4.out); have A5 := hid (((((A4.out.setBlk 15 (.int .i64 k)).setBlk 16 (.string nm)).setBlk 17 (.string tx)).setBlk 18 (.int .i64 a)).setBlk 19 (.int .i64 d)); have p3 := hid (SF.out _ _ _ _ _ rfl A5.out); have A6 := hid (A5.out.setBlk 20 (.int .i64 n2)); have p4 := hid (SF.out _ _ _ _ _ rfl A6.out); clear hw2))
  have A7 := hid (A6.out.swap.tail)
  generalize ((((((w2.setCell ⟨P, 14, none⟩ (.bool true)).setCell ⟨P, 15, none⟩ (.int .i64 k)).setCell ⟨P, 16, none⟩ (.string nm)).setCell ⟨P, 17, none⟩ (.string tx)).setCell ⟨P, 18, none⟩ (.int .i64 a)).setCell ⟨P, 19, none⟩ (.int .i64 d)).setCell ⟨P, 20, none⟩ (.int .i64 n2) = w3 at A7 ⊢
  clear p0 p1 p2 p3 p4 A6 A5 A4 A3 A2 A1 SF N d14 g14 d15 g15 d16 g16 d17 g17 d18 g18 d19 g19 d20 g20
  go_wp2
  go_ret
  exact ⟨rfl, A7.out⟩
end Go.Proofs.YtdhkdniddjnigaaGreatDoor

import Derived.Test.YteloaggebkbeeaaDoorMail4
import Derived.Lib.OthersKept
import Derived.WalkSmall
namespace Go.Proofs.YteloaggebkbeeaaDoor
open Go.RowKit Go.Lib
set_option linter.unusedVariables false

theorem iterAt_below {w wr : World} {s : ByteArray} {k p : Nat} (h : Below w.heap.size w wr) (hk : w.heap.size ≤ k) : Below w.heap.size w (wr.iterAt k s p) := by
  refine ⟨h.os, h.tape, h.output, ?_, fun i hi => ?_⟩
  · have := h.size
    simpa [World.iterAt] using this
  · rw [← h.block i hi]
    simp only [World.iterAt]
    rw [Array.getElem?_setIfInBounds_ne (by omega)]
theorem iter_below (w : World) (s : ByteArray) : Below w.heap.size w (w.iter s 0) := ba w _
def allF : ByteArray := ⟨#[86, 75, 67, 78, 76, 81, 72, 79, 82, 69, 71]⟩
theorem fld_ascii (k : Nat) (r : UInt8) (h : r ∈ fldN.getD k []) : r.toNat < 128 := by
  have key : ∀ l ∈ fldN, ∀ r ∈ l, r.toNat < 128 := by decide
  by_cases hk : k < fldN.length
  · rw [List.getD, List.getElem?_eq_getElem hk] at h
    exact key _ (List.getElem_mem hk) r h
  · rw [List.getD, List.getElem?_eq_none (by omega)] at h
    cases h
theorem all_ascii (i : Nat) (h : i < allF.size) : (allF[i]'h).toNat < 128 ∧ allF[i]'h ∈ allF.data.toList := by
  have hm : allF[i]'h ∈ allF.data.toList := by
    simp only [Array.mem_toList_iff]
    exact Array.getElem_mem _
  have key : ∀ r ∈ allF.data.toList, r.toNat < 128 := by decide
  exact ⟨key _ hm, hm⟩
def inH (k : Nat) (h : Bool) (r : Nat) : Bool := inK k r && (decide (r ≠ 71) || (decide ((k : Int) ≠ 11) || h))
set_option maxHeartbeats 1600000 in
set_option maxRecDepth 100000 in
theorem fields_ok {w : World} {b k : Nat} {m : Ms} (hF : Fld w) (hM : MsAt w b m) (hk : k < 16) (hmk : m.k = k)
    (H1 : ∀ r ∈ fldN.getD k [], inH k m.h r.toNat = true → ∀ W, Below w.heap.size w W → Calls Tryd.prog 81 #[.pointer (some ⟨b, 0, none⟩), .int .i32 (r.toNat : Int)] W fun e w' => e = .returned (.bool true) ∧ Below W.heap.size W w')
    (H2 : ∀ r ∈ allF.data.toList, inH k m.h r.toNat = false → ∀ W, Below w.heap.size w W → Calls Tryd.prog 83 #[.pointer (some ⟨b, 0, none⟩), .int .i32 (r.toNat : Int)] W fun e w' => e = .returned (.bool true) ∧ Below W.heap.size W w') :
    Calls Tryd.prog 59 #[.pointer (some ⟨b, 0, none⟩)] w fun e w' => e = .returned (.int .i64 0) ∧ Below w.heap.size w w' := by
  have h128 : ∀ (i : Nat) (h : i < (fldS k).size), ((fldS k)[i]'h).toNat < 128 ∧ (fldS k)[i]'h ∈ fldN.getD k [] := by
    intro i h
    have hm : (fldS k)[i]'h ∈ fldN.getD k [] := by
      have : (fldS k)[i]'h ∈ (fldS k).data.toList := by
        simp only [Array.mem_toList_iff]
        exact Array.getElem_mem _
      simpa [fldS] using this
    refine ⟨?_, hm⟩
    exact fld_ascii k _ hm
  have c := hF.cell k hk
  have c0 : w.cell? ⟨b, 0, none⟩ = some (.int .i64 (k : Int)) := by rw [← hmk]; exact hM 0 _ rfl
  have j1 : (k : Int) < 16 := by omega
  have C74 : Hid (∀ (r : Nat) W, r < 128 → Below w.heap.size w W → Calls Tryd.prog 80 #[.pointer (some ⟨b, 0, none⟩), .int .i32 (r : Int)] W fun e w' => e = .returned (.bool (inH k m.h r)) ∧ Below W.heap.size W w') := hid (fun r W hr hW => by
    have hm := hM.under hW
    exact has74_any (hF.below hW) hk hr (by rw [← hmk]; exact hm 0 _ rfl) (hm 9 _ rfl))
  have HH1 := hid H1
  have HH2 := hid H2
  have H128 := hid h128
  obtain ⟨IT, hIT⟩ : ∃ IT, Hid (IT = w.heap.size) := ⟨_, hid rfl⟩
  clear hF hM H1 H2 hmk h128
  go_enter Tryd.func59, Tryd.ntmps59
  go_wp2_with fail
  rw [← hIT.out]
  have I0 : Hid ((w.iter (fldS k) 0).heap[IT]? = some (.stringIter (fldS k) 0) ∧ Below w.heap.size w (w.iter (fldS k) 0)) := hid ⟨by rw [hIT.out]; exact World.iter_heap w _ _, iter_below w _⟩
  generalize w.iter (fldS k) 0 = w1 at I0 ⊢
  go_loopw [14] (fun u wr => ∃ p : Nat, Hid (wr.heap[IT]? = some (.stringIter (fldS k) p) ∧ Below w.heap.size w wr ∧ p ≤ (fldS k).size)) (fun u wr => (fldS k).size - wr.iterPos IT)
  case atStart => exact ⟨0, hid ⟨I0.out.1, I0.out.2, by omega⟩⟩
  case round =>
    clear I0 c0 c
    obtain ⟨p, HP⟩ := hrel
    by_cases hlt : p < (fldS k).size
    · have hn := run_next_ascii_at (P := Tryd.prog) wr IT (fldS k) p 0 HP.out.1 hlt (H128.out p hlt).1
      have hb1 := hid (iterAt_below (k := IT) (s := fldS k) (p := p + 1) HP.out.2.1 (by rw [hIT.out]; exact Nat.le_refl _))
      have hi1 := hid (iterAt_heap wr IT (fldS k) p (p + 1) HP.out.1)
      have hmm := hid (H128.out p hlt)
      have hm0 : Hid (wr.iterPos IT = p) := hid (iterPos_of HP.out.1)
      go_wp2_with fail
      generalize (fldS k)[p] = r8 at hmm ⊢
      clear hn
      generalize wr.iterAt IT (fldS k) (p + 1) = w2 at hb1 hi1 ⊢
      cases hB : inH k m.h r8.toNat with
      | true =>
        refine (C74.out _ _ hmm.out.1 hb1.out).mono ?_
        rintro e w3 ⟨rfl, hb3⟩
        rw [hB]
        have HB3 := hid hb3
        have hb13 := hid (b2 hb1.out hb3)
        have HB := hid hB
        clear hb3 hB
        go_wp2_with fail
        refine (HH1.out r8 hmm.out.2 HB.out w3 hb13.out).mono ?_
        rintro e w4 ⟨rfl, hb4⟩
        have hi4 : Hid (w4.heap[IT]? = some (.stringIter (fldS k) (p + 1))) := hid (by
          have hlt2 := (Array.getElem?_eq_some_iff.1 hi1.out).1
          rw [hb4.block _ (Nat.lt_of_lt_of_le hlt2 HB3.out.size), HB3.out.block _ hlt2]
          exact hi1.out)
        have hb14 := hid (b2 hb13.out hb4)
        clear hb4
        go_wp2_with fail
        go_roundw
        case rel => exact ⟨p + 1, hid ⟨hi4.out, hb14.out, hlt⟩⟩
        case measure => rw [hm0.out, iterPos_of hi4.out]; omega
      | false =>
        refine (C74.out _ _ hmm.out.1 hb1.out).mono ?_
        rintro e w3 ⟨rfl, hb3⟩
        rw [hB]
        have hi4 : Hid (w3.heap[IT]? = some (.stringIter (fldS k) (p + 1))) := hid (by
          have hlt2 := (Array.getElem?_eq_some_iff.1 hi1.out).1
          rw [hb3.block _ hlt2]
          exact hi1.out)
        have hb13 := hid (b2 hb1.out hb3)
        clear hb3 hB
        go_wp2_with fail
        go_roundw
        case rel => exact ⟨p + 1, hid ⟨hi4.out, hb13.out, hlt⟩⟩
        case measure => rw [hm0.out, iterPos_of hi4.out]; omega
    · have hn := run_next_end_at (P := Tryd.prog) wr IT (fldS k) p 0 HP.out.1 hlt
      obtain ⟨I2, hI2⟩ : ∃ I2, Hid (I2 = wr.heap.size) := ⟨_, hid rfl⟩
      go_wp2_with fail
      rw [show ({ data := #[86, 75, 67, 78, 76, 81, 72, 79, 82, 69, 71] } : ByteArray) = allF from rfl, ← hI2.out]
      have J0 : Hid ((wr.iter allF 0).heap[I2]? = some (.stringIter allF 0) ∧ Below w.heap.size w (wr.iter allF 0)) := hid ⟨by rw [hI2.out]; exact World.iter_heap wr _ _, b2 HP.out.2.1 (iter_below wr _)⟩
      have hI2w : Hid (w.heap.size ≤ I2) := hid (by rw [hI2.out]; exact HP.out.2.1.size)
      generalize wr.iter allF 0 = w2 at J0 ⊢
      clear hn HP hlt hI2
      go_loopw [29] (fun u wr => ∃ p : Nat, Hid (wr.heap[I2]? = some (.stringIter allF p) ∧ Below w.heap.size w wr ∧ p ≤ allF.size)) (fun u wr => allF.size - wr.iterPos I2)
      case atStart => exact ⟨0, hid ⟨J0.out.1, J0.out.2, by omega⟩⟩
      case round =>
        clear J0
        obtain ⟨p, HP⟩ := hrel
        by_cases hlt : p < allF.size
        · have h8 := all_ascii p hlt
          have hn := run_next_ascii_at (P := Tryd.prog) wr I2 allF p 0 HP.out.1 hlt h8.1
          have hb1 := hid (iterAt_below (k := I2) (s := allF) (p := p + 1) HP.out.2.1 hI2w.out)
          have hi1 := hid (iterAt_heap wr I2 allF p (p + 1) HP.out.1)
          have hmm := hid h8
          have hm0 : Hid (wr.iterPos I2 = p) := hid (iterPos_of HP.out.1)
          clear h8
          go_wp2_with fail
          generalize allF[p] = r8 at hmm ⊢
          clear hn
          generalize wr.iterAt I2 allF (p + 1) = w2 at hb1 hi1 ⊢
          cases hB : inH k m.h r8.toNat with
          | false =>
            refine (C74.out _ _ hmm.out.1 hb1.out).mono ?_
            rintro e w3 ⟨rfl, hb3⟩
            rw [hB]
            have HB3 := hid hb3
            have hb13 := hid (b2 hb1.out hb3)
            have HB := hid hB
            clear hb3 hB
            go_wp2_with fail
            refine (HH2.out r8 hmm.out.2 HB.out w3 hb13.out).mono ?_
            rintro e w4 ⟨rfl, hb4⟩
            have hi4 : Hid (w4.heap[I2]? = some (.stringIter allF (p + 1))) := hid (by
              have hlt2 := (Array.getElem?_eq_some_iff.1 hi1.out).1
              rw [hb4.block _ (Nat.lt_of_lt_of_le hlt2 HB3.out.size), HB3.out.block _ hlt2]
              exact hi1.out)
            have hb14 := hid (b2 hb13.out hb4)
            clear hb4
            go_wp2_with fail
            go_roundw
            case rel => exact ⟨p + 1, hid ⟨hi4.out, hb14.out, hlt⟩⟩
            case measure => rw [hm0.out, iterPos_of hi4.out]; omega
          | true =>
            refine (C74.out _ _ hmm.out.1 hb1.out).mono ?_
            rintro e w3 ⟨rfl, hb3⟩
            rw [hB]
            have hi4 : Hid (w3.heap[I2]? = some (.stringIter allF (p + 1))) := hid (by
              have hlt2 := (Array.getElem?_eq_some_iff.1 hi1.out).1
              rw [hb3.block _ hlt2]
              exact hi1.out)
            have hb13 := hid (b2 hb1.out hb3)
            clear hb3 hB
            go_wp2_with fail
            go_roundw
            case rel => exact ⟨p + 1, hid ⟨hi4.out, hb13.out, hlt⟩⟩
            case measure => rw [hm0.out, iterPos_of hi4.out]; omega
        · have hn := run_next_end_at (P := Tryd.prog) wr I2 allF p 0 HP.out.1 hlt
          go_wp2
          go_ret
          exact ⟨rfl, HP.out.2.1⟩
end Go.Proofs.YteloaggebkbeeaaDoor

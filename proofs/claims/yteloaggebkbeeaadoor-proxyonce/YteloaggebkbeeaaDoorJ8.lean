import Derived.Test.YteloaggebkbeeaaDoorJ7
import Derived.Lib.OthersKept
import Derived.WalkSmall
import Derived.Deep.MidRow
namespace Go.Proofs.YteloaggebkbeeaaDoor
open Go.RowKit Go.Lib
set_option linter.unusedVariables false

theorem iterAt_below {w wr : World} {s : ByteArray} {k p : Nat} (h : Below w.heap.size w wr) (hk : w.heap.size ≤ k) : Below w.heap.size w (wr.iterAt k s p) := by
  refine ⟨h.os, h.tape, h.output, ?_, fun i hi => ?_⟩
  · have := h.size
    simpa [World.iterAt] using this
  · rw [← h.block i hi]
    simp only [World.iterAt]
    rw [Array.getElem?_setIfInBounds_ne (by omega)]
theorem iter_below (w : World) (s : ByteArray) : Below w.heap.size w (w.iter s 0) := ba w _
def allF : ByteArray := ⟨#[86, 75, 67, 78, 76, 81, 72, 79, 82, 69, 71]⟩
theorem fld_ascii (k : Nat) (r : UInt8) (h : r ∈ fldN.getD k []) : r.toNat < 128 := by
  have key : ∀ l ∈ fldN, ∀ r ∈ l, r.toNat < 128 := by decide
  by_cases hk : k < fldN.length
  · rw [List.getD, List.getElem?_eq_getElem hk] at h
    exact key _ (List.getElem_mem hk) r h
  · rw [List.getD, List.getElem?_eq_none (by omega)] at h
    cases h
theorem all_ascii (i : Nat) (h : i < allF.size) : (allF[i]'h).toNat < 128 ∧ allF[i]'h ∈ allF.data.toList := by
  have hm : allF[i]'h ∈ allF.data.toList := by
    simp only [Array.mem_toList_iff]
    exact Array.getElem_mem _
  have key : ∀ r ∈ allF.data.toList, r.toNat < 128 := by decide
  exact ⟨key _ hm, hm⟩
def inH (k : Nat) (h : Bool) (r : Nat) : Bool := inK k r && (decide (r ≠ 71) || (decide ((k : Int) ≠ 11) || h))
set_option maxHeartbeats 1600000 in
set_option maxRecDepth 100000 in
theorem fields_ok {w : World} {b k : Nat} {m : Ms} (hF : Fld w) (hM : MsAt w b m) (hk : k < 16) (hmk : m.k = k)
    (H1 : ∀ r ∈ fldN.getD k [], inH k m.h r.toNat = true → ∀ W, Below w.heap.size w W → Calls Tryd.prog 81 #[.pointer (some ⟨b, 0, none⟩), .int .i32 (r.toNat : Int)] W fun e w' => e = .returned (.bool true) ∧ Below W.heap.size W w')
    (H2 : ∀ r ∈ allF.data.toList, inH k m.h r.toNat = false → ∀ W, Below w.heap.size w W → Calls Tryd.prog 83 #[.pointer (some ⟨b, 0, none⟩), .int .i32 (r.toNat : Int)] W fun e w' => e = .returned (.bool true) ∧ Below W.heap.size W w') :
    Calls Tryd.prog 59 #[.pointer (some ⟨b, 0, none⟩)] w fun e w' => e = .returned (.int .i64 0) ∧ Below w.heap.size w w' := by
  have h128 : ∀ (i : Nat) (h : i < (fldS k).size), ((fldS k)[i]'h).toNat < 128 ∧ (fldS k)[i]'h ∈ fldN.getD k [] := by
    intro i h
    have hm : (fldS k)[i]'h ∈ fldN.getD k [] := by
      have : (fldS k)[i]'h ∈ (fldS k).data.toList := by
        simp only [Array.mem_toList_iff]
        exact Array.getElem_mem _
      simpa [fldS] using this
    refine ⟨?_, hm⟩
    exact fld_ascii k _ hm
  have c := hF.cell k hk
  have c0 : w.cell? ⟨b, 0, none⟩ = some (.int .i64 (k : Int)) := by rw [← hmk]; exact hM 0 _ rfl
  have j1 : (k : Int) < 16 := by omega
  have C74 : Hid (∀ (r : Nat) W, r < 128 → Below w.heap.size w W → Calls Tryd.prog 80 #[.pointer (some ⟨b, 0, none⟩), .int .i32 (r : Int)] W fun e w' => e = .returned (.bool (inH k m.h r)) ∧ Below W.heap.size W w') := hid (fun r W hr hW => by
    have hm := hM.under hW
    exact has74_any (hF.below hW) hk hr (by rw [← hmk]; exact hm 0 _ rfl) (hm 9 _ rfl))
  have HH1 := hid H1
  have HH2 := hid H2
  have H128 := hid h128
  obtain ⟨IT, hIT⟩ : ∃ IT, Hid (IT = w.heap.size) := ⟨_, hid rfl⟩
  clear hF hM H1 H2 hmk h128
  go_enter Tryd.func59, Tryd.ntmps59
  go_wp2_with fail
  rw [← hIT.out]
  have I0 : Hid ((w.iter (fldS k) 0).heap[IT]? = some (.stringIter (fldS k) 0) ∧ Below w.heap.size w (w.iter (fldS k) 0)) := hid ⟨by rw [hIT.out]; exact World.iter_heap w _ _, iter_below w _⟩
  generalize w.iter (fldS k) 0 = w1 at I0 ⊢
  go_loopw [14] (fun u wr => ∃ p : Nat, Hid (wr.heap[IT]? = some (.stringIter (fldS k) p) ∧ Below w.heap.size w wr ∧ p ≤ (fldS k).size)) (fun u wr => (fldS k).size - wr.iterPos IT)
  case atStart => exact ⟨0, hid ⟨I0.out.1, I0.out.2, by omega⟩⟩
  case round =>
    clear I0 c0 c
    obtain ⟨p, HP⟩ := hrel
    by_cases hlt : p < (fldS k).size
    · have hn := run_next_ascii_at (P := Tryd.prog) wr IT (fldS k) p 0 HP.out.1 hlt (H128.out p hlt).1
      have hb1 := hid (iterAt_below (k := IT) (s := fldS k) (p := p + 1) HP.out.2.1 (by rw [hIT.out]; exact Nat.le_refl _))
      have hi1 := hid (iterAt_heap wr IT (fldS k) p (p + 1) HP.out.1)
      have hmm := hid (H128.out p hlt)
      have hm0 : Hid (wr.iterPos IT = p) := hid (iterPos_of HP.out.1)
      go_wp2_with fail
      generalize (fldS k)[p] = r8 at hmm ⊢
      clear hn
      generalize wr.iterAt IT (fldS k) (p + 1) = w2 at hb1 hi1 ⊢
      cases hB : inH k m.h r8.toNat with
      | true =>
        refine (C74.out _ _ hmm.out.1 hb1.out).mono ?_
        rintro e w3 ⟨rfl, hb3⟩
        rw [hB]
        have HB3 := hid hb3
        have hb13 := hid (b2 hb1.out hb3)
        have HB := hid hB
        clear hb3 hB
        go_wp2_with fail
        refine (HH1.out r8 hmm.out.2 HB.out w3 hb13.out).mono ?_
        rintro e w4 ⟨rfl, hb4⟩
        have hi4 : Hid (w4.heap[IT]? = some (.stringIter (fldS k) (p + 1))) := hid (by
          have hlt2 := (Array.getElem?_eq_some_iff.1 hi1.out).1
          rw [hb4.block _ (Nat.lt_of_lt_of_le hlt2 HB3.out.size), HB3.out.block _ hlt2]
          exact hi1.out)
        have hb14 := hid (b2 hb13.out hb4)
        clear hb4
        go_wp2_with fail
        go_roundw
        case rel => exact ⟨p + 1, hid ⟨hi4.out, hb14.out, hlt⟩⟩
        case measure => rw [hm0.out, iterPos_of hi4.out]; omega
      | false =>
        refine (C74.out _ _ hmm.out.1 hb1.out).mono ?_
        rintro e w3 ⟨rfl, hb3⟩
        rw [hB]
        have hi4 : Hid (w3.heap[IT]? = some (.stringIter (fldS k) (p + 1))) := hid (by
          have hlt2 := (Array.getElem?_eq_some_iff.1 hi1.out).1
          rw [hb3.block _ hlt2]
          exact hi1.out)
        have hb13 := hid (b2 hb1.out hb3)
        clear hb3 hB
        go_wp2_with fail
        go_roundw
        case rel => exact ⟨p + 1, hid ⟨hi4.out, hb13.out, hlt⟩⟩
        case measure => rw [hm0.out, iterPos_of hi4.out]; omega
    · have hn := run_next_end_at (P := Tryd.prog) wr IT (fldS k) p 0 HP.out.1 hlt
      obtain ⟨I2, hI2⟩ : ∃ I2, Hid (I2 = wr.heap.size) := ⟨_, hid rfl⟩
      go_wp2_with fail
      rw [show ({ data := #[86, 75, 67, 78, 76, 81, 72, 79, 82, 69, 71] } : ByteArray) = allF from rfl, ← hI2.out]
      have J0 : Hid ((wr.iter allF 0).heap[I2]? = some (.stringIter allF 0) ∧ Below w.heap.size w (wr.iter allF 0)) := hid ⟨by rw [hI2.out]; exact World.iter_heap wr _ _, b2 HP.out.2.1 (iter_below wr _)⟩
      have hI2w : Hid (w.heap.size ≤ I2) := hid (by rw [hI2.out]; exact HP.out.2.1.size)
      generalize wr.iter allF 0 = w2 at J0 ⊢
      clear hn HP hlt hI2
      go_loopw [29] (fun u wr => ∃ p : Nat, Hid (wr.heap[I2]? = some (.stringIter allF p) ∧ Below w.heap.size w wr ∧ p ≤ allF.size)) (fun u wr => allF.size - wr.iterPos I2)
      case atStart => exact ⟨0, hid ⟨J0.out.1, J0.out.2, by omega⟩⟩
      case round =>
        clear J0
        obtain ⟨p, HP⟩ := hrel
        by_cases hlt : p < allF.size
        · have h8 := all_ascii p hlt
          have hn := run_next_ascii_at (P := Tryd.prog) wr I2 allF p 0 HP.out.1 hlt h8.1
          have hb1 := hid (iterAt_below (k := I2) (s := allF) (p := p + 1) HP.out.2.1 hI2w.out)
          have hi1 := hid (iterAt_heap wr I2 allF p (p + 1) HP.out.1)
          have hmm := hid h8
          have hm0 : Hid (wr.iterPos I2 = p) := hid (iterPos_of HP.out.1)
          clear h8
          go_wp2_with fail
          generalize allF[p] = r8 at hmm ⊢
          clear hn
          generalize wr.iterAt I2 allF (p + 1) = w2 at hb1 hi1 ⊢
          cases hB : inH k m.h r8.toNat with
          | false =>
            refine (C74.out _ _ hmm.out.1 hb1.out).mono ?_
            rintro e w3 ⟨rfl, hb3⟩
            rw [hB]
            have HB3 := hid hb3
            have hb13 := hid (b2 hb1.out hb3)
            have HB := hid hB
            clear hb3 hB
            go_wp2_with fail
            refine (HH2.out r8 hmm.out.2 HB.out w3 hb13.out).mono ?_
            rintro e w4 ⟨rfl, hb4⟩
            have hi4 : Hid (w4.heap[I2]? = some (.stringIter allF (p + 1))) := hid (by
              have hlt2 := (Array.getElem?_eq_some_iff.1 hi1.out).1
              rw [hb4.block _ (Nat.lt_of_lt_of_le hlt2 HB3.out.size), HB3.out.block _ hlt2]
              exact hi1.out)
            have hb14 := hid (b2 hb13.out hb4)
            clear hb4
            go_wp2_with fail
            go_roundw
            case rel => exact ⟨p + 1, hid ⟨hi4.out, hb14.out, hlt⟩⟩
            case measure => rw [hm0.out, iterPos_of hi4.out]; omega
          | true =>
            refine (C74.out _ _ hmm.out.1 hb1.out).mono ?_
            rintro e w3 ⟨rfl, hb3⟩
            rw [hB]
            have hi4 : Hid (w3.heap[I2]? = some (.stringIter allF (p + 1))) := hid (by
              have hlt2 := (Array.getElem?_eq_some_iff.1 hi1.out).1
              rw [hb3.block _ hlt2]
              exact hi1.out)
            have hb13 := hid (b2 hb1.out hb3)
            clear hb3 hB
            go_wp2_with fail
            go_roundw
            case rel => exact ⟨p + 1, hid ⟨hi4.out, hb13.out, hlt⟩⟩
            case measure => rw [hm0.out, iterPos_of hi4.out]; omega
        · have hn := run_next_end_at (P := Tryd.prog) wr I2 allF p 0 HP.out.1 hlt
          go_wp2
          go_ret
          exact ⟨rfl, HP.out.2.1⟩
end Go.Proofs.YteloaggebkbeeaaDoor

namespace Go.Proofs.YteloaggebkbeeaaDoor
open Go.RowKit Go.Lib
set_option linter.unusedVariables false

abbrev Ms.V (m : Ms) : Value := .agg #[.int .i64 m.k, .int .i64 m.f, .int .i64 m.t, .int .i64 m.v, .int .i64 m.n, .int .i64 m.c, .int .i64 m.o, .int .i64 m.l, .int .i64 m.q, .bool m.h, .int .i64 m.ok, .string m.onm, .string m.otx, .int .i64 m.on, .int .i64 m.om, .int .i64 m.rc, .int .i64 m.rn, .slice m.ra m.rl m.rp, .slice m.ea m.el m.ep, .int .i64 m.cf, .int .i64 m.cb, .slice m.sa m.sl m.sp, .slice m.xa m.xl m.xp]
theorem MsAt.new (w : World) (m : Ms) : MsAt (w.alloc (.cells m.cells.toArray 41)) w.heap.size m := by
  intro j u hu
  rw [cell_at (heap_alloc_new w _)]
  simpa using hu
/-- The cells of a message. -/
def MsC (b : Nat) (m : Ms) (W : World) : Prop := W.cell? ⟨b, 0, none⟩ = some (.int .i64 m.k) ∧ W.cell? ⟨b, 1, none⟩ = some (.int .i64 m.f) ∧ W.cell? ⟨b, 2, none⟩ = some (.int .i64 m.t) ∧ W.cell? ⟨b, 3, none⟩ = some (.int .i64 m.v) ∧ W.cell? ⟨b, 4, none⟩ = some (.int .i64 m.n) ∧ W.cell? ⟨b, 5, none⟩ = some (.int .i64 m.c) ∧ W.cell? ⟨b, 6, none⟩ = some (.int .i64 m.o) ∧ W.cell? ⟨b, 7, none⟩ = some (.int .i64 m.l) ∧ W.cell? ⟨b, 8, none⟩ = some (.int .i64 m.q) ∧ W.cell? ⟨b, 9, none⟩ = some (.bool m.h) ∧ W.cell? ⟨b, 10, none⟩ = some (.int .i64 m.ok) ∧ W.cell? ⟨b, 11, none⟩ = some (.string m.onm) ∧ W.cell? ⟨b, 12, none⟩ = some (.string m.otx) ∧ W.cell? ⟨b, 13, none⟩ = some (.int .i64 m.on) ∧ W.cell? ⟨b, 14, none⟩ = some (.int .i64 m.om) ∧ W.cell? ⟨b, 15, none⟩ = some (.int .i64 m.rc) ∧ W.cell? ⟨b, 16, none⟩ = some (.int .i64 m.rn) ∧ W.cell? ⟨b, 17, none⟩ = some (.slice m.ra m.rl m.rp) ∧ W.cell? ⟨b, 18, none⟩ = some (.slice m.ea m.el m.ep) ∧ W.cell? ⟨b, 19, none⟩ = some (.int .i64 m.cf) ∧ W.cell? ⟨b, 20, none⟩ = some (.int .i64 m.cb) ∧ W.cell? ⟨b, 21, none⟩ = some (.slice m.sa m.sl m.sp) ∧ W.cell? ⟨b, 22, none⟩ = some (.slice m.xa m.xl m.xp)
theorem MsAt.all {W : World} {b : Nat} {m : Ms} (h : MsAt W b m) : MsC b m W := ⟨h 0 _ rfl, h 1 _ rfl, h 2 _ rfl, h 3 _ rfl, h 4 _ rfl, h 5 _ rfl, h 6 _ rfl, h 7 _ rfl, h 8 _ rfl, h 9 _ rfl, h 10 _ rfl, h 11 _ rfl, h 12 _ rfl, h 13 _ rfl, h 14 _ rfl, h 15 _ rfl, h 16 _ rfl, h 17 _ rfl, h 18 _ rfl, h 19 _ rfl, h 20 _ rfl, h 21 _ rfl, h 22 _ rfl⟩

set_option maxRecDepth 1000000 in
/-- Not to itself. -/
theorem itself_no {w : World} (m : Ms) (hne : m.f ≠ m.t) : Calls Tryd.prog 58 #[m.V] w fun e w' => e = .returned (.bool false) ∧ Below w.heap.size w w' := by
  have hb : (m.f == m.t) = false := by simpa using hne
  go_enter Tryd.func58, Tryd.ntmps58
  go_wp2
  go_ret
  exact ⟨rfl, ba _ _⟩

set_option maxHeartbeats 6400000 in
set_option maxRecDepth 1000000 in
/-- A message that may be. -/
theorem check_ok {w : World} (m : Ms) (cF cT : Bool) (hk : 1 ≤ m.k ∧ m.k ≤ 15) (hcF : cF = decide (m.k = 1 ∨ m.k = 14)) (hcT : cT = decide (m.k = 2 ∨ m.k = 3 ∨ m.k = 15))
    (hf : (if cF then decide (0 ≤ m.f ∧ m.f ≤ 7) else decide (0 ≤ m.f ∧ m.f ≤ 3 - 1)) = true) (ht : (if cT then decide (0 ≤ m.t ∧ m.t ≤ 7) else decide (0 ≤ m.t ∧ m.t ≤ 3 - 1)) = true) (hne : m.f ≠ m.t)
    (H34 : ∀ (W : World) (b : Nat), Below w.heap.size w W → MsAt W b m → Calls Tryd.prog 59 #[.pointer (some ⟨b, 0, none⟩)] W fun e w' => e = .returned (.int .i64 0) ∧ Below W.heap.size W w') :
    Calls Tryd.prog 35 #[.int .i64 3, m.V] w fun e w' => e = .returned (.int .i64 0) ∧ Below w.heap.size w w' := by
  have C10 : Hid (∀ W : World, Calls Tryd.prog 56 #[.int .i64 m.k] W fun e w' => e = .returned (.bool cF) ∧ w' = W) := hid (fun W => by rw [hcF]; exact from_any m.k)
  have C11 : Hid (∀ W : World, Calls Tryd.prog 57 #[.int .i64 m.k] W fun e w' => e = .returned (.bool cT) ∧ w' = W) := hid (fun W => by rw [hcT]; exact to_any m.k)
  have CF : Hid (∀ W : World, Calls Tryd.prog 55 #[.int .i64 3, .int .i64 m.f, .bool cF] W fun e w' => e = .returned (.bool true) ∧ w' = W) := hid (fun W => by
    have := isEnd_any (w := W) 3 m.f cF (by omega) (by omega)
    rw [hf] at this
    exact this)
  have CT : Hid (∀ W : World, Calls Tryd.prog 55 #[.int .i64 3, .int .i64 m.t, .bool cT] W fun e w' => e = .returned (.bool true) ∧ w' = W) := hid (fun W => by
    have := isEnd_any (w := W) 3 m.t cT (by omega) (by omega)
    rw [ht] at this
    exact this)
  have C33 : Hid (∀ W : World, Calls Tryd.prog 58 #[.agg m.cells.toArray] W fun e w' => e = .returned (.bool false) ∧ Below W.heap.size W w') := hid (fun W => itself_no m hne)
  have C31 : Hid (∀ W : World, Calls Tryd.prog 54 #[.int .i64 3] W fun e w' => e = .returned (.bool true) ∧ w' = W) := hid (fun W => fleet_any 3)
  have HH := hid H34
  have k1 : decide (m.k < 1) = false := by simp; omega
  have k2 : decide (15 < m.k) = false := by simp; omega
  have M0 := hid (MsAt.new w m)
  have B0 := hid (ba w (.cells m.cells.toArray 41))
  clear hf ht hne hcF hcT H34 hk
  go_enter Tryd.func35, Tryd.ntmps35
  go_wp2_with fail
  refine (C31.out _).mono ?_
  rintro e w1 ⟨rfl, hw1⟩
  have M0 : Hid (MsAt w1 w.heap.size m) := hid (by rw [hw1]; exact M0.out)
  have B0 : Hid (Below w.heap.size w w1) := hid (by rw [hw1]; exact B0.out)
  clear hw1 C31
  obtain ⟨b, hbb⟩ : ∃ b, Hid (b = w.heap.size) := ⟨_, hid rfl⟩
  rw [← hbb.out] at M0
  simp only [← hbb.out]
  have c0 : w1.cell? ⟨b, 0, none⟩ = some (.int .i64 m.k) := M0.out 0 _ rfl
  have c1 : w1.cell? ⟨b, 1, none⟩ = some (.int .i64 m.f) := M0.out 1 _ rfl
  go_wp2
  go_region_held3 (fun W => W.cell? ⟨b, 0, none⟩ = some (.int .i64 m.k) ∧ W.cell? ⟨b, 1, none⟩ = some (.int .i64 m.f)) (go_keep)
    (first
      | (go_at_call 56; refine (C10.out _).mono ?_; rintro e w2 ⟨rfl, hw2⟩; subst hw2)
      | (go_at_call 55; refine (CF.out _).mono ?_; rintro e w2 ⟨rfl, hw2⟩; subst hw2))
  have M3 : Hid (MsAt w1.drew b m) := hid (M0.out.under (bd w1))
  have B3 : Hid (Below w.heap.size w w1.drew) := hid (b2 B0.out (bd w1))
  generalize w1.drew = w3 at M3 B3 ⊢
  clear M0 B0 C10 CF c0 c1
  have y0 := (M3.out.under (bd w3)) 0 _ rfl
  have y2 := (M3.out.under (bd w3)) 2 _ rfl
  have yM := M3.out.under (bd w3)
  have yR : Hid (w3.drew.rangeAt b 0 m.cells) := hid (fun j u hu => by rw [Nat.zero_add]; exact yM j u hu)
  have i34 : (Tryd.prog.info? 41).map (·.size) = some m.cells.length := by kernel_rfl
  have i34 := hid i34
  go_wp2
  refine wp_region_held_drew (S := (fun W => W.cell? ⟨b, 0, none⟩ = some (.int .i64 m.k) ∧ W.cell? ⟨b, 2, none⟩ = some (.int .i64 m.t) ∧ W.rangeAt b 0 m.cells)) (by kernel_rfl) ⟨y0, y2, yR.out⟩ (fun hHeld => ?_)
  refine wpAnyH_take (i := 0) (oi := { dst := some 28, op := Op.move (Operand.tmp 0), type := 3, pos := "mail.go:25", after := #[], guard := none }) (v := ?_) rfl (by kernel_rfl) (by kernel_rfl) (by kernel_rfl) (fun _ _ _ h => h) (Or.inl ⟨by rfl, ?_⟩) hHeld ?_
  rotate_left
  · intro W hSw
    (try dsimp only at hSw)
    go_simp
    (try with_reducible rfl)
  (try simp only [Act.put, List.setIfInBounds_toArray, List.set_cons_zero, List.set_cons_succ])
  refine wpAnyH_take (i := 1) (oi := { dst := some 29, op := Op.fieldAddr 41 (Operand.tmp 3) 2, type := 0, pos := "mail.go:25", after := #[], guard := none }) (v := ?_) rfl (by kernel_rfl) (by kernel_rfl) (by kernel_rfl) (fun _ _ _ h => h) (Or.inl ⟨by rfl, ?_⟩) hHeld ?_
  rotate_left
  · intro W hSw
    (try dsimp only at hSw)
    go_simp
    (try with_reducible rfl)
  (try simp only [Act.put, List.setIfInBounds_toArray, List.set_cons_zero, List.set_cons_succ])
  refine wpAnyH_take (i := 2) (oi := { dst := some 30, op := Op.load 3 (Operand.tmp 29), type := 3, pos := "mail.go:25", after := #[{ on := 1, ground := Ground.data }], guard := none }) (v := ?_) rfl (by kernel_rfl) (by kernel_rfl) (by kernel_rfl) (fun _ _ _ h => h) (Or.inl ⟨by rfl, ?_⟩) hHeld ?_
  rotate_left
  · intro W hSw
    (try dsimp only at hSw)
    go_simp
    (try with_reducible rfl)
  (try simp only [Act.put, List.setIfInBounds_toArray, List.set_cons_zero, List.set_cons_succ])
  refine wpAnyH_take (i := 3) (oi := { dst := some 31, op := Op.fieldAddr 41 (Operand.tmp 3) 0, type := 0, pos := "mail.go:25", after := #[], guard := none }) (v := ?_) rfl (by kernel_rfl) (by kernel_rfl) (by kernel_rfl) (fun _ _ _ h => h) (Or.inl ⟨by rfl, ?_⟩) hHeld ?_
  rotate_left
  · intro W hSw
    (try dsimp only at hSw)
    go_simp
    (try with_reducible rfl)
  (try simp only [Act.put, List.setIfInBounds_toArray, List.set_cons_zero, List.set_cons_succ])
  refine wpAnyH_take (i := 4) (oi := { dst := some 32, op := Op.load 3 (Operand.tmp 31), type := 3, pos := "mail.go:25", after := #[{ on := 3, ground := Ground.data }], guard := none }) (v := ?_) rfl (by kernel_rfl) (by kernel_rfl) (by kernel_rfl) (fun _ _ _ h => h) (Or.inl ⟨by rfl, ?_⟩) hHeld ?_
  rotate_left
  · intro W hSw
    (try dsimp only at hSw)
    go_simp
    (try with_reducible rfl)
  (try simp only [Act.put, List.setIfInBounds_toArray, List.set_cons_zero, List.set_cons_succ])
  refine wpAnyH_ready (rs := [5]) (by kernel_rfl) (by simp) ?_
  refine AllReadyH.cons (o := { dst := some 33, op := Op.call { callee := Callee.value (Operand.func 57), args := #[Operand.tmp 32], argTypes := #[3] }, type := 4, pos := "mail.go:25", after := #[{ on := 4, ground := Ground.data }], guard := none }) rfl (fun K hK => ?_) AllReadyH.nil
  go_simp
  refine (C11.out _).mono ?_; rintro e w2 ⟨rfl, hw2⟩; subst hw2
  refine hK.out _ _ ⟨y0, y2, yR.out⟩ (fun hHeld => ?_)
  clear hK K
  (try simp only [Act.put, List.setIfInBounds_toArray, List.set_cons_zero, List.set_cons_succ])
  refine wpAnyH_ready (rs := [6]) (by kernel_rfl) (by simp) ?_
  refine AllReadyH.cons (o := { dst := some 34, op := Op.call { callee := Callee.value (Operand.func 55), args := #[Operand.tmp 28, Operand.tmp 30, Operand.tmp 33], argTypes := #[3, 3, 4] }, type := 4, pos := "mail.go:25", after := #[{ on := 0, ground := Ground.data }, { on := 2, ground := Ground.data }, { on := 5, ground := Ground.data }, { on := 5, ground := Ground.chain }], guard := none }) rfl (fun K hK => ?_) AllReadyH.nil
  go_simp
  refine (CT.out _).mono ?_; rintro e w2 ⟨rfl, hw2⟩; subst hw2
  refine hK.out _ _ ⟨y0, y2, yR.out⟩ (fun hHeld => ?_)
  clear hK K
  (try simp only [Act.put, List.setIfInBounds_toArray, List.set_cons_zero, List.set_cons_succ])
  refine wpAnyH_take (i := 7) (oi := { dst := some 35, op := Op.unOp UnOp.not 4 (Operand.tmp 34), type := 4, pos := "mail.go:25", after := #[{ on := 6, ground := Ground.data }], guard := none }) (v := ?_) rfl (by kernel_rfl) (by kernel_rfl) (by kernel_rfl) (fun _ _ _ h => h) (Or.inl ⟨by rfl, ?_⟩) hHeld ?_
  rotate_left
  · intro W hSw
    (try dsimp only at hSw)
    go_simp
    (try with_reducible rfl)
  (try simp only [Act.put, List.setIfInBounds_toArray, List.set_cons_zero, List.set_cons_succ])
  refine wpAnyH_take (i := 8) (oi := { dst := some 36, op := Op.move (Operand.tmp 35), type := 4, pos := "mail.go:25", after := #[{ on := 7, ground := Ground.data }, { on := 6, ground := Ground.chain }], guard := none }) (v := ?_) rfl (by kernel_rfl) (by kernel_rfl) (by kernel_rfl) (fun _ _ _ h => h) (Or.inl ⟨by rfl, ?_⟩) hHeld ?_
  rotate_left
  · intro W hSw
    (try dsimp only at hSw)
    go_simp
    (try with_reducible rfl)
  (try simp only [Act.put, List.setIfInBounds_toArray, List.set_cons_zero, List.set_cons_succ])
  refine wpAnyH_take (i := 9) (oi := { dst := some 37, op := Op.load 41 (Operand.tmp 3), type := 41, pos := "mail.go:25", after := #[{ on := 8, ground := Ground.guard }], guard := some (8, false) }) (v := .agg m.cells.toArray) rfl (by kernel_rfl) (by kernel_rfl) (by kernel_rfl) (fun _ _ _ h => h) (yieldsIf_load_mid (by rfl) 41 (.tmp 3) rfl b 0 rfl m.cells _ (fun W hW => hW.2.2) Tryd.underlying41 rfl i34.out) hHeld ?_
  (try simp only [Act.put, List.setIfInBounds_toArray, List.set_cons_zero, List.set_cons_succ])
  refine wpAnyH_ready (rs := [10]) (by kernel_rfl) (by simp) ?_
  refine AllReadyH.cons (o := { dst := some 38, op := Op.call { callee := Callee.value (Operand.func 58), args := #[Operand.tmp 37], argTypes := #[41] }, type := 4, pos := "mail.go:25", after := #[{ on := 9, ground := Ground.data }, { on := 8, ground := Ground.chain }, { on := 8, ground := Ground.guard }], guard := some (8, false) }) rfl (fun K hK => ?_) AllReadyH.nil
  go_simp
  refine (C33.out _).mono ?_; rintro e w4 ⟨rfl, hb4⟩; have M4 := hid ((M3.out.under (bd w3)).under hb4); have B4 := hid (b2 (b2 B3.out (bd w3)) hb4); have z0 := M4.out 0 _ rfl; have z2 := M4.out 2 _ rfl
  refine hK.out _ _ ⟨z0, z2, fun j u hu => by rw [Nat.zero_add]; exact M4.out j u hu⟩ (fun hHeld => ?_)
  clear hK K
  (try simp only [Act.put, List.setIfInBounds_toArray, List.set_cons_zero, List.set_cons_succ])
  refine wpAnyH_take (i := 11) (oi := { dst := some 39, op := Op.pick (Operand.tmp 36) (Operand.const (Value.bool true)) (Operand.tmp 38), type := 4, pos := "mail.go:25", after := #[{ on := 8, ground := Ground.data }, { on := 10, ground := Ground.data }], guard := none }) (v := ?_) rfl (by kernel_rfl) (by kernel_rfl) (by kernel_rfl) (fun _ _ _ h => h) (Or.inl ⟨by rfl, ?_⟩) hHeld ?_
  rotate_left
  · intro W hSw
    (try dsimp only at hSw)
    go_simp
    (try with_reducible rfl)
  (try simp only [Act.put, List.setIfInBounds_toArray, List.set_cons_zero, List.set_cons_succ])
  refine wpAnyH_take (i := 12) (oi := { dst := some 27, op := Op.assign (Operand.tmp 39), type := 4, pos := "mail.go:25", after := #[{ on := 11, ground := Ground.data }, { on := 10, ground := Ground.chain }], guard := none }) (v := ?_) rfl (by kernel_rfl) (by kernel_rfl) (by kernel_rfl) (fun _ _ _ h => h) (Or.inl ⟨by rfl, ?_⟩) hHeld ?_
  rotate_left
  · intro W hSw
    (try dsimp only at hSw)
    go_simp
    (try with_reducible rfl)
  (try simp only [Act.put, List.setIfInBounds_toArray, List.set_cons_zero, List.set_cons_succ])
  refine wpAnyH_done (by kernel_rfl) ?_ _
  clear hHeld
  clear y0 y2 yM z0 z2 yR i34
  go_wp2_with fail
  refine (HH.out _ _ B4.out M4.out).mono ?_
  rintro e w5 ⟨rfl, hb5⟩
  have B5 := hid (b2 B4.out hb5)
  clear hb5
  go_wp2
  go_ret
  exact ⟨rfl, B5.out⟩
end Go.Proofs.YteloaggebkbeeaaDoor

import Derived.Test.YthnccpbgccmapaaDoorRefSeal
namespace Go.Proofs.YthnccpbgccmapaaDoor
open Go.RowKit
set_option linter.unusedVariables false

theorem headP_no {l : List UInt8} (h : noMark l) : openP l = ([], 22) := by
  unfold openP
  have : headP l = (0, 22) := by unfold headP; rw [if_pos h]
  rw [this]
  simp
theorem headP_lo {l : List UInt8} (h : ¬ noMark l) (h9 : l.length < 9) : openP l = ([], 21) := by
  unfold openP
  have : headP l = (0, 21) := by unfold headP; rw [if_neg h, if_pos h9]
  rw [this]
  simp

/-- What is known behind the mark. -/
theorem openP_rest {l : List UInt8} (h : ¬ noMark l) (h9 : ¬ l.length < 9) : openP l =
    if isSum ((l.drop 5).take 4) (sumN (l.take 5)) = false then ([], 24)
    else if 65536 < lenP l then ([], 20)
    else if l.length < lenP l + 13 then ([], 21)
    else if lenP l + 13 < l.length then ([], 23)
    else if isSum ((l.drop (9 + lenP l)).take 4) (sumN ((l.drop 9).take (lenP l))) = false then ([], 24)
    else ((l.drop 9).take (lenP l), 0) := by
  by_cases hS : isSum ((l.drop 5).take 4) (sumN (l.take 5)) = false
  · rw [if_pos hS]
    have : headP l = (0, 24) := by unfold headP; rw [if_neg h, if_neg h9, if_pos hS]
    unfold openP
    rw [this]
    simp
  · rw [if_neg hS]
    by_cases hb : 65536 < lenP l
    · rw [if_pos hb]
      have : headP l = (0, 20) := by unfold headP; rw [if_neg h, if_neg h9, if_neg hS, if_pos hb]
      unfold openP
      rw [this]
      simp
    · rw [if_neg hb]
      have : headP l = (lenP l, 0) := by unfold headP; rw [if_neg h, if_neg h9, if_neg hS, if_neg hb]
      unfold openP
      rw [this]
      simp

set_option maxHeartbeats 3200000 in
set_option maxRecDepth 1000000 in
theorem refOpen_any {w : World} {s : Value} {l : List UInt8} (h : Reads w s l) (hlen : l.length ≤ 140737488351232) :
    Calls Tryd.prog 34 #[s] w fun e w' => ∃ v, e = .returned (.tuple #[v, .int .i64 ((openP l).2 : Int)]) ∧ w'.ownsRow w.heap.size 5 1 v (openP l).1.length (cellsB (openP l).1) ∧ Below w.heap.size w w' := by
  obtain ⟨ao, c, hf⟩ := h.form
  subst hf
  have HH := hid h
  have hcap := h.cap.1
  clear h
  go_enter Tryd.func34, Tryd.ntmps34
  by_cases h0 : 0 < l.length
  · obtain ⟨g, o, rfl, q0⟩ := HH.out.at_u8 0 h0
    rw [Nat.add_zero] at q0
    obtain ⟨x0, hx0⟩ : ∃ x, x = (l.getD 0 0).toNat := ⟨_, rfl⟩
    rw [← hx0] at q0
    have HX0 := hid hx0
    clear hx0
    by_cases e0 : x0 = 70
    · subst e0
      by_cases h1 : 1 < l.length
      · obtain ⟨g', o', e', q1⟩ := HH.out.at_u8 1 h1
        simp only [Option.some.injEq, Addr.mk.injEq, and_true] at e'
        obtain ⟨rfl, rfl⟩ := e'
        obtain ⟨x1, hx1⟩ : ∃ x, x = (l.getD 1 0).toNat := ⟨_, rfl⟩
        rw [← hx1] at q1
        have HX1 := hid hx1
        clear hx1
        by_cases e1 : x1 = 76
        · subst e1
          have hnm := hid (show ¬ noMark l from by
            rintro (h | h)
            · exact h.2 (u8_eq HX0.out.symm)
            · exact h.2 (u8_eq HX1.out.symm))
          by_cases h9 : l.length < 9
          · have hfin := hid (headP_lo hnm.out h9)
            go_wp2
            go_ret2
            exact ⟨_, by rw [hfin.out]; rfl, by rw [hfin.out]; exact owns_nil _ _, Below.refl _ _⟩
          · have hfin := hid (openP_rest hnm.out h9)
            go_wp2_with fail
            refine (refSum_any (l := l.take 5) (by have := HH.out.sub 0 5 c (by omega) (by omega); simpa using this) (by simp; omega)).mono ?_
            rintro e w1 ⟨rfl, rfl⟩
            have hs1 := sumN_lt (l.take 5)
            go_wp2_with fail
            refine (summed_any HH.out 5 (sumN (l.take 5)) hs1 (by omega) hlen).mono ?_
            rintro e w2 ⟨rfl, q, rfl⟩
            clear q0 q1
            have B2 := hid (bdN w1 q)
            have R2 := hid (HH.out.drewN q)
            generalize w1.drewN q = w3 at *
            cases hS : isSum ((l.drop 5).take 4) (sumN (l.take 5)) with
            | false =>
              have hf := hid (hfin.out.trans (if_pos hS))
              clear hS
              go_wp2
              go_ret2
              exact ⟨_, by rw [hf.out]; rfl, by rw [hf.out]; exact owns_nil _ _, B2.out⟩
            | true =>
              have hf := hid (hfin.out.trans (if_neg (by rw [hS]; simp)))
              clear hS
              go_wp2_with fail
              refine (length_any R2.out (by omega) (by omega)).mono ?_
              rintro e w4 ⟨rfl, q', rfl⟩
              have B4 := hid (below_drewN B2.out q')
              have R4 := hid (R2.out.drewN q')
              generalize w3.drewN q' = w4 at *
              have elp : (l.getD 2 0).toNat + (l.getD 3 0).toNat * 256 + (l.getD 4 0).toNat * 65536 = lenP l := rfl
              rw [elp]
              clear elp
              generalize hn : lenP l = n at *
              clear hn
              by_cases hb : 65536 < n
              · have hf2 := hid (hf.out.trans (if_pos hb))
                go_wp2
                go_ret2
                exact ⟨_, by rw [hf2.out]; rfl, by rw [hf2.out]; exact owns_nil _ _, B4.out⟩
              · have hf2 := hid (hf.out.trans (if_neg hb))
                by_cases hs : l.length < n + 13
                · have hf3 := hid (hf2.out.trans (if_pos hs))
                  go_wp2
                  go_ret2
                  exact ⟨_, by rw [hf3.out]; rfl, by rw [hf3.out]; exact owns_nil _ _, B4.out⟩
                · have hf3 := hid (hf2.out.trans (if_neg hs))
                  by_cases hm : n + 13 < l.length
                  · have hf4 := hid (hf3.out.trans (if_pos hm))
                    go_wp2
                    go_ret2
                    exact ⟨_, by rw [hf4.out]; rfl, by rw [hf4.out]; exact owns_nil _ _, B4.out⟩
                  · have hf4 := hid (hf3.out.trans (if_neg hm))
                    clear hf hf2 hf3 hfin
                    have RB := hid (R4.out.sub 9 n (c - 9) (by omega) (by omega))
                    go_wp2_with fail
                    refine (refSum_any (l := (l.drop 9).take n) RB.out (by simp; omega)).mono ?_
                    rintro e w5 ⟨rfl, rfl⟩
                    have hs2 := sumN_lt ((l.drop 9).take n)
                    go_wp2_with fail
                    refine (summed_any R4.out (9 + n) (sumN ((l.drop 9).take n)) hs2 (by omega) hlen).mono ?_
                    rintro e w6 ⟨rfl, q2, rfl⟩
                    have B6 := hid (below_drewN B4.out q2)
                    have R6 := hid (RB.out.drewN q2)
                    clear B4 R4 RB
                    generalize w5.drewN q2 = w7 at *
                    cases hS : isSum ((l.drop (9 + n)).take 4) (sumN ((l.drop 9).take n)) with
                    | false =>
                      have hf := hid (hf4.out.trans (if_pos hS))
                      clear hS
                      go_wp2
                      go_ret2
                      exact ⟨_, by rw [hf.out]; rfl, by rw [hf.out]; exact owns_nil _ _, B6.out⟩
                    | true =>
                      have hf := hid (hf4.out.trans (if_neg (by rw [hS]; simp)))
                      clear hS
                      have hown0 := owns_empty w7
                      have hown0' : (w7.alloc (.cells #[] 5)).ownsRow w1.heap.size 5 1 (.slice (some ⟨w7.heap.size, 0, none⟩) 0 0) ([] : List UInt8).length (cellsB []) := by
                        refine ⟨hown0.1, ?_⟩
                        rcases hown0.2 with hn | ⟨g, cap, cur, hv, hg, rest⟩
                        · exact Or.inl hn
                        · exact Or.inr ⟨g, cap, cur, hv, Nat.le_trans B6.out.size hg, rest⟩
                      have R7 := hid (R6.out.below (ba w7 (.cells #[] 5)))
                      have hl7 : ((l.drop 9).take n).length = n := by simp; omega
                      have HL7 := hid hl7
                      have hs7 := B6.out.size
                      clear hown0 hl7
                      generalize hp : (l.drop 9).take n = p at *
                      clear hp
                      go_wp2_with (at_builtin; (refine wpList_append_bytes rfl (.tmp 60) (.tmp 64) rfl w1.heap.size _ [] p (.slice (some ⟨g, o + 9, none⟩) n (c - 9)) rfl (by first | rfl | go_simp | simp) hown0' R7.out (by rw [HL7.out]; simp; omega) (by simp; omega) ?_))
                      intro v' w8 hown hg hat
                      have B8 := hid (show Below w1.heap.size w1 w8 from (B6.out.alloc B6.out.size (.cells #[] 5)).grown hg (Nat.le_trans hs7 (by simp)) (fun j hj => by simp [Value.ownBlock] at hj; omega))
                      have O8 := hid (show w8.ownsRow w1.heap.size 5 1 v' p.length (cellsB p) by simpa using hown)
                      obtain ⟨xn, yn, hv⟩ := owns_form hown
                      subst hv
                      clear hown hg hat hown0'
                      go_wp2
                      go_ret2
                      exact ⟨_, by rw [hf.out]; rfl, by rw [hf.out]; exact O8.out, B8.out⟩
        · have hb : ((x1 : Int) != 76) = true := by simp; omega
          have hfin := hid (headP_no (l := l) (Or.inr ⟨h1, u8_ne (by rw [← HX1.out]; exact e1)⟩))
          clear e1
          go_wp2
          go_ret2
          exact ⟨_, by rw [hfin.out]; rfl, by rw [hfin.out]; exact owns_nil _ _, Below.refl _ _⟩
      · have hfin := hid (headP_lo (l := l) (by
          rintro (h | h)
          · exact h.2 (u8_eq HX0.out.symm)
          · exact h1 h.1) (by omega))
        have h9 : l.length < 9 := by omega
        go_wp2
        go_ret2
        exact ⟨_, by rw [hfin.out]; rfl, by rw [hfin.out]; exact owns_nil _ _, Below.refl _ _⟩
    · have hb : ((x0 : Int) != 70) = true := by simp; omega
      have hfin := hid (headP_no (l := l) (Or.inl ⟨h0, u8_ne (by rw [← HX0.out]; exact e0)⟩))
      clear e0
      go_wp2
      go_ret2
      exact ⟨_, by rw [hfin.out]; rfl, by rw [hfin.out]; exact owns_nil _ _, Below.refl _ _⟩
  · have hfin := hid (headP_lo (l := l) (by
      rintro (h | h)
      · exact h0 h.1
      · have := h.1; omega) (by omega))
    have h1 : ¬ 1 < l.length := by omega
    have h9 : l.length < 9 := by omega
    go_wp2
    go_ret2
    exact ⟨_, by rw [hfin.out]; rfl, by rw [hfin.out]; exact owns_nil _ _, Below.refl _ _⟩
end Go.Proofs.YthnccpbgccmapaaDoor

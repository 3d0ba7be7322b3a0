import Derived.Test.YthnccpbgccmapabDoorLooks
namespace Go.Proofs.YthnccpbgccmapabDoor
open Go.RowKit
set_option linter.unusedVariables false
attribute [local go_sem ↓] Go.wp_at_zero Go.wp_at_succ

/-- What the document's look answers. -/
def Lok.num : Lok → Int
  | .more => 0
  | .bad => -1
  | .whole n => (n : Int) + 13

theorem look_mark0 {l : List UInt8} (h0 : 0 < l.length) (h : l.getD 0 0 ≠ 70) : lookP l = .bad := by
  unfold lookP; rw [if_pos (show noMark l from Or.inl ⟨h0, h⟩)]
theorem look_mark1 {l : List UInt8} (h0 : 1 < l.length) (h : l.getD 1 0 ≠ 76) : lookP l = .bad := by
  unfold lookP; rw [if_pos (show noMark l from Or.inr ⟨h0, h⟩)]
theorem look_short {l : List UInt8} (hm : ¬ noMark l) (h : l.length < 5) : lookP l = .more := by
  unfold lookP; rw [if_neg hm, if_pos h]
theorem noMark_not {l : List UInt8} (h0 : 0 < l.length → l.getD 0 0 = 70) (h1 : 1 < l.length → l.getD 1 0 = 76) : ¬ noMark l := by
  rintro (⟨h, e⟩ | ⟨h, e⟩)
  · exact e (h0 h)
  · exact e (h1 h)

set_option maxHeartbeats 6400000 in
set_option maxRecDepth 1000000 in
theorem look_any {w : World} {s : Value} {l : List UInt8} (h : Reads w s l) (hlen : l.length ≤ 1048576) :
    Calls Tryd.prog 37 #[s] w fun e w' => e = .returned (.int .i64 (lookP l).num) ∧ ∃ q, w' = w.drewN q := by
  obtain ⟨ao, c, hf⟩ := h.form
  subst hf
  have HH := hid h
  have hcap := h.cap.1
  by_cases h0 : 0 < l.length
  · obtain ⟨g, o, rfl, c0⟩ := h.at_u8 0 h0
    have b0 := (l.getD 0 0).toNat_lt
    by_cases e0 : l.getD 0 0 = 70
    · rw [e0] at c0
      have c0 : w.cell? ⟨g, o + 0, none⟩ = some (.int .u8 70) := c0
      rw [Nat.add_zero] at c0
      clear b0
      by_cases h1 : 1 < l.length
      · obtain ⟨g1, o1, eg, c1⟩ := h.at_u8 1 h1
        cases eg
        have b1 := (l.getD 1 0).toNat_lt
        by_cases e1 : l.getD 1 0 = 76
        · rw [e1] at c1
          have c1 : w.cell? ⟨g, o + 1, none⟩ = some (.int .u8 76) := c1
          have HN := hid (noMark_not (l := l) (fun _ => e0) (fun _ => e1))
          by_cases h5 : l.length < 5
          · have HF := hid (look_short HN.out h5)
            clear h b1 e0 e1
            go_enter Tryd.func37, Tryd.ntmps37
            go_wp2
            go_ret
            exact ⟨by rw [HF.out]; rfl, 0, rfl⟩
          · have HL := hid (length_any h (by omega) (by omega))
            have hlp : (l.getD 2 0).toNat + (l.getD 3 0).toNat * 256 + (l.getD 4 0).toNat * 65536 = lenP l := rfl
            rw [hlp] at HL
            have hln : lenP l < 16777216 := by rw [← lenJ_three]; exact lenJ_lt l 3
            have HD := hid (show lookP l = _ from by unfold lookP; rw [if_neg HN.out, if_neg h5])
            generalize lenP l = n at *
            clear h b1 e0 e1 hlp
            go_enter Tryd.func37, Tryd.ntmps37
            go_wp2_with fail
            refine HL.out.mono ?_
            rintro e w1 ⟨rfl, q1, hq1⟩
            have R1 := hid (show Reads w1 _ l from hq1 ▸ HH.out.drewN q1)
            have Q1 := hid hq1
            clear hq1 HL c0 c1
            by_cases hbig : 65536 < n
            · have HF := hid (show lookP l = .bad from by rw [HD.out, if_pos (Or.inl hbig)])
              clear HD
              go_wp2
              go_ret
              exact ⟨by rw [HF.out]; rfl, _, Q1.out⟩
            · have hs5 : Reads w1 (.slice (some ⟨g, o, none⟩) 5 c) (l.take 5) := by
                have := R1.out.sub 0 5 c (by omega) (by omega)
                simpa using this
              have S5 := hid (refSum_any hs5 (by simp; omega))
              have hS5 := sumN_lt (l.take 5)
              have hc5 : 5 ≤ c := by omega
              clear hs5
              go_wp2_with fail
              refine S5.out.mono ?_
              rintro e w2 ⟨rfl, rfl⟩
              have HB := hid (begins_any R1.out 5 (by omega) hlen (sumN (l.take 5)) hS5)
              generalize hS5e : sumN (l.take 5) = S1 at *
              clear hS5e S5
              go_wp2_with fail
              refine HB.out.mono ?_
              rintro e w3 ⟨rfl, q3, hq3⟩
              have R3 := hid (show Reads w3 _ l from hq3 ▸ R1.out.drewN q3)
              have Q3 := hid (show w3 = w.drewN (q1 + q3) from by rw [hq3, Q1.out, World.drewN_drewN])
              clear hq3 HB R1 Q1
              cases hbg : begB (l.drop 5) S1 with
              | false =>
                have HF := hid (show lookP l = .bad from by rw [HD.out, if_pos (Or.inr hbg)])
                clear HD hbg
                go_wp2
                go_ret
                exact ⟨by rw [HF.out]; rfl, _, Q3.out⟩
              | true =>
                have HD2 := hid (show lookP l = _ from by rw [HD.out, if_neg (by rintro (e | e); · exact hbig e
                                                                                 · rw [hbg] at e; cases e)])
                clear HD hbg
                by_cases h9 : l.length ≤ 9 + n
                · have HF := hid (show lookP l = .more from by rw [HD2.out, if_pos h9])
                  clear HD2
                  go_wp2
                  go_ret
                  exact ⟨by rw [HF.out]; rfl, _, Q3.out⟩
                · have hs9 : Reads w3 (.slice (some ⟨g, o + 9, none⟩) n (c - 9)) ((l.drop 9).take n) := R3.out.sub 9 n (c - 9) (by omega) (by omega)
                  have S9 := hid (refSum_any hs9 (by simp; omega))
                  have hS9 := sumN_lt ((l.drop 9).take n)
                  have hc9 : 9 + n ≤ c := by omega
                  have hne9 : ¬ c = 9 := by omega
                  clear hs9
                  go_wp2_with fail
                  refine S9.out.mono ?_
                  rintro e w4 ⟨rfl, rfl⟩
                  have HB := hid (begins_any R3.out (9 + n) (by omega) hlen (sumN ((l.drop 9).take n)) hS9)
                  generalize hS9e : sumN ((l.drop 9).take n) = S2 at *
                  clear hS9e S9
                  go_wp2_with fail
                  have HB := hid (show Calls Tryd.prog 41 #[_, .int .i64 (9 + (n : Int)), .int .u32 (S2 : Int)] w4 _ from by have := HB.out; rw [show ((9 + n : Nat) : Int) = 9 + (n : Int) by omega] at this; exact this)
                  refine HB.out.mono ?_
                  rintro e w5 ⟨rfl, q5, hq5⟩
                  have Q5 := hid (show w5 = w.drewN (q1 + q3 + q5) from by rw [hq5, Q3.out, World.drewN_drewN])
                  clear hq5 HB R3 Q3
                  cases hbg : begB (l.drop (9 + n)) S2 with
                  | false =>
                    have HF := hid (show lookP l = .bad from by rw [HD2.out, if_neg h9, if_pos hbg])
                    clear HD2 hbg
                    go_wp2
                    go_ret
                    exact ⟨by rw [HF.out]; rfl, _, Q5.out⟩
                  | true =>
                    have HD3 := hid (show lookP l = _ from by rw [HD2.out, if_neg h9, if_neg (by rw [hbg]; decide)])
                    clear HD2 hbg
                    by_cases h13 : l.length < n + 13
                    · have HF := hid (show lookP l = .more from by rw [HD3.out, if_pos h13])
                      clear HD3
                      go_wp2
                      go_ret
                      exact ⟨by rw [HF.out]; rfl, _, Q5.out⟩
                    · have HF := hid (show lookP l = .whole n from by rw [HD3.out, if_neg h13])
                      clear HD3
                      go_wp2
                      go_ret
                      exact ⟨by rw [HF.out]; rfl, _, Q5.out⟩
        · have hne : ¬ ((l.getD 1 0).toNat : Int) = 76 := fun e => e1 (UInt8.toNat_inj.1 (by have : (76 : UInt8).toNat = 76 := rfl; omega))
          have HF := hid (look_mark1 h1 e1)
          generalize (l.getD 1 0).toNat = x at *
          clear h e0 e1
          go_enter Tryd.func37, Tryd.ntmps37
          go_wp2
          go_ret
          exact ⟨by rw [HF.out]; rfl, 0, rfl⟩
      · have HF := hid (look_short (noMark_not (l := l) (fun _ => e0) (fun e => absurd e h1)) (by omega))
        clear h e0
        go_enter Tryd.func37, Tryd.ntmps37
        go_wp2
        go_ret
        exact ⟨by rw [HF.out]; rfl, 0, rfl⟩
    · have hne : ¬ ((l.getD 0 0).toNat : Int) = 70 := fun e => e0 (UInt8.toNat_inj.1 (by have : (70 : UInt8).toNat = 70 := rfl; omega))
      rw [Nat.add_zero] at c0
      have HF := hid (look_mark0 h0 e0)
      generalize (l.getD 0 0).toNat = x at *
      clear h e0
      go_enter Tryd.func37, Tryd.ntmps37
      go_wp2
      go_ret
      exact ⟨by rw [HF.out]; rfl, 0, rfl⟩
  · have HF := hid (look_short (noMark_not (l := l) (fun e => absurd e h0) (fun e => by omega)) (by omega))
    clear h
    go_enter Tryd.func37, Tryd.ntmps37
    go_wp2
    go_ret
    exact ⟨by rw [HF.out]; rfl, 0, rfl⟩
end Go.Proofs.YthnccpbgccmapabDoor

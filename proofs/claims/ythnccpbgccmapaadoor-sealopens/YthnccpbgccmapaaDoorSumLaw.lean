import Derived.Test.YthnccpbgccmapaaDoorShown
namespace Go.Proofs.YthnccpbgccmapaaDoor
open Go.RowKit
set_option linter.unusedVariables false

theorem owns_some {w : World} {base : Nat} {v : Value} {n : Nat} {xs : List Value} (h : w.ownsRow base 5 1 v n xs) (hn : 0 < n) : ∃ g cap, v = .slice (some ⟨g, 0, none⟩) n cap ∧ n ≤ cap ∧ base ≤ g ∧ g < w.heap.size := by
  rcases h.2 with ⟨_, e⟩ | ⟨g, cap, cur, rfl, hg, hgg, hc, _⟩
  · omega
  · exact ⟨g, cap, rfl, hc, hg, (Array.getElem?_eq_some_iff.1 hgg).1⟩

theorem behind_take (l : List UInt8) : (behind l 8).take l.length = l := by simp [behind]

/-- The list that is handed in. -/
theorem Reads.front {w : World} {g n c : Nat} {l : List UInt8} (h : Reads w (.slice (some ⟨g, 0, none⟩) n c) (behind l 8)) : Reads w (.slice (some ⟨g, 0, none⟩) l.length c) l := by
  have hc := h.cap
  rw [behind_len] at hc
  have := h.sub 0 l.length c (by rw [behind_len]; omega) (by omega)
  rw [List.drop_zero, behind_take] at this
  simpa using this

set_option maxHeartbeats 3200000 in
set_option maxRecDepth 1000000 in
theorem sealSum_walk {w : World} {s t : Value} {l m : List UInt8} (hT : Tab w) (h1 : Reads w s l) (h2 : Reads w t m) (hl : l.length ≤ 140737488351232) (hm : m.length ≤ 140737488351232) :
    Calls Tryd.prog 3 #[s, t] w fun e w' => e = .returned (.bool true) ∧ Below w.heap.size w w' := by
  obtain ⟨ao, c, hf⟩ := h1.form
  obtain ⟨ao', c', hf'⟩ := h2.form
  subst hf hf'
  have HT := hid hT
  have R1 := hid h1
  have R2 := hid h2
  clear hT h1 h2
  go_enter Tryd.func3, Tryd.ntmps3
  go_wp2_with fail
  refine (shown_any HT.out).mono ?_
  rintro e w1 ⟨rfl, hb1⟩
  have B1 := hid hb1
  clear hb1
  go_wp2_with fail
  refine (lent_any (R1.out.below B1.out) hl).mono ?_
  rintro e w2 ⟨v, rfl, ho, hb2⟩
  have B2 := hid (show Below w.heap.size w w2 from B1.out.trans (hb2.mono B1.out.size))
  have RA := hid (Reads.of_owns ho)
  obtain ⟨g, cap, hv, hcap, hg, hg2⟩ := owns_some ho (by rw [behind_len]; omega)
  subst hv
  have RF := hid RA.out.front
  rw [behind_len] at RA hcap ⊢
  clear ho hb2
  go_wp2_with fail
  refine (Sum_any (HT.out.below B2.out) RF.out (by omega)).mono ?_
  rintro e w3 ⟨rfl, rfl⟩
  go_wp2_with fail
  refine (Sum_any (HT.out.below B2.out) (R2.out.below B2.out) (by omega)).mono ?_
  rintro e w3 ⟨rfl, rfl⟩
  go_wp2_with fail
  refine (Sum_any (HT.out.below B2.out) RF.out (by omega)).mono ?_
  rintro e w3 ⟨rfl, rfl⟩
  go_wp2_with fail
  refine (refSum_any (R1.out.below B2.out) (by omega)).mono ?_
  rintro e w3 ⟨rfl, rfl⟩
  go_wp2_with fail
  refine (refSum_any (R2.out.below B2.out) (by omega)).mono ?_
  rintro e w3 ⟨rfl, rfl⟩
  go_wp2_with fail
  refine (still_any RA.out (R1.out.below B2.out) (by omega)).mono ?_
  rintro e w3 ⟨rfl, q, rfl⟩
  go_wp2
  go_ret
  exact ⟨rfl, below_drewN B2.out q⟩
end Go.Proofs.YthnccpbgccmapaaDoor

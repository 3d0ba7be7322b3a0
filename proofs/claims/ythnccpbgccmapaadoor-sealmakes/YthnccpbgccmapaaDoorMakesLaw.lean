import Derived.Test.YthnccpbgccmapaaDoorRight
namespace Go.Proofs.YthnccpbgccmapaaDoor
open Go.RowKit
set_option linter.unusedVariables false

set_option maxHeartbeats 1600000 in
set_option maxRecDepth 1000000 in
theorem sealMakes_walk {w : World} {s : Value} {l : List UInt8} (hT : Tab w) (h : Reads w s l) (hlen : l.length ≤ 140737488351232) :
    Calls Tryd.prog 4 #[s] w fun e w' => e = .returned (.bool true) ∧ Below w.heap.size w w' := by
  obtain ⟨ao, c, hf⟩ := h.form
  subst hf
  have HT := hid hT
  have HH := hid h
  clear hT h
  go_enter Tryd.func4, Tryd.ntmps4
  go_wp2_with fail
  refine (shown_any HT.out).mono ?_
  rintro e w1 ⟨rfl, hb1⟩
  have B1 := hid hb1
  clear hb1
  go_wp2_with fail
  refine (right_any false (HT.out.below B1.out) (HH.out.below B1.out) hlen).mono ?_
  rintro e w2 ⟨rfl, hb2⟩
  have B2 := hid (B1.out.trans (hb2.mono B1.out.size))
  clear hb2
  go_wp2
  go_ret
  exact ⟨rfl, B2.out⟩

set_option maxHeartbeats 1600000 in
set_option maxRecDepth 1000000 in
theorem sealOpens_walk {w : World} {s : Value} {l : List UInt8} (hT : Tab w) (h : Reads w s l) (hlen : l.length ≤ 140737488351232) :
    Calls Tryd.prog 5 #[s] w fun e w' => e = .returned (.bool true) ∧ Below w.heap.size w w' := by
  obtain ⟨ao, c, hf⟩ := h.form
  subst hf
  have HT := hid hT
  have HH := hid h
  clear hT h
  go_enter Tryd.func5, Tryd.ntmps5
  go_wp2_with fail
  refine (shown_any HT.out).mono ?_
  rintro e w1 ⟨rfl, hb1⟩
  have B1 := hid hb1
  clear hb1
  go_wp2_with fail
  refine (right_any true (HT.out.below B1.out) (HH.out.below B1.out) hlen).mono ?_
  rintro e w2 ⟨rfl, hb2⟩
  have B2 := hid (B1.out.trans (hb2.mono B1.out.size))
  clear hb2
  go_wp2
  go_ret
  exact ⟨rfl, B2.out⟩
end Go.Proofs.YthnccpbgccmapaaDoor

import Derived.Test.YtagdpfghooogfaaPlain
namespace Go.Proofs.Ytagdpfghooogfaa
open Go.RowKit
set_option linter.unusedVariables false

set_option maxHeartbeats 800000 in
set_option maxRecDepth 1000000 in
theorem Close_any {w : World} {b : Nat} {D : Option Nat} {rv : Value} {rs : List UInt8} {place : Nat} {err : Int} (h : Rd w b D rv rs place err) :
    Calls Try.prog 57 #[.pointer (some ⟨b, 0, none⟩)] w fun e w' => e = .returned (.int .i64 (if rs = [] then err else keepE err 15)) ∧ (∃ rv', Rd w' b D rv' [] place (if rs = [] then err else keepE err 15)) ∧ Only b w w' := by
  obtain ⟨ao, c, hf⟩ := h.reads.form
  subst hf
  have c0 : w.cell? ⟨b, 0, none⟩ = some (.slice ao rs.length c) := by rw [cell_at h.box]; rfl
  have c2 : w.cell? ⟨b, 2, none⟩ = some (.int .i64 err) := by rw [cell_at h.box]; rfl
  have HH : Hid _ := h
  clear h
  by_cases hrs : rs = []
  · subst hrs
    rw [if_pos rfl]
    go_enter Try.func57, Try.ntmps57
    go_wp2
    go_ret
    exact ⟨rfl, ⟨_, HH.out⟩, Only.refl _ _⟩
  · rw [if_neg hrs]
    have hl : 0 < rs.length := List.length_pos_iff.2 hrs
    clear hrs
    go_enter Try.func57, Try.ntmps57
    go_wp2_with fail
    refine (rfail_any HH.out 15 (by omega)).mono ?_
    rintro e w1 ⟨rfl, ⟨rv', h1⟩, h2⟩
    have H1 : Hid _ := h1
    have H2 : Hid _ := h2
    have d2 : w1.cell? ⟨b, 2, none⟩ = some (.int .i64 (keepE err 15)) := by rw [cell_at h1.box]; rfl
    clear h1 h2
    go_wp2
    go_ret
    exact ⟨rfl, ⟨_, H1.out⟩, H2.out⟩

end Go.Proofs.Ytagdpfghooogfaa

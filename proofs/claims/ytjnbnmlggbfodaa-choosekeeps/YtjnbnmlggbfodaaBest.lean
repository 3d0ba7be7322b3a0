import Derived.Test.YtjnbnmlggbfodaaFirst
import Derived.Test.YtjnbnmlggbfodaaPlacesW
namespace Go.Proofs.Ytjnbnmlggbfodaa
open Go.RowKit
set_option linter.unusedVariables false

theorem plR_cases (n : Int) (ids : List Int) : (∃ ps, plR n ids = (ps, 0) ∧ szd n ids.length = true ∧ plc n ids ids.length = some ps) ∨ plR n ids = (zeroP, 121) ∨ plR n ids = (zeroP, 120) := by
  unfold plR
  split
  · rename_i h
    cases hp : plc n ids ids.length with
    | none => exact Or.inr (Or.inl rfl)
    | some ps => exact Or.inl ⟨ps, rfl, h, rfl⟩
  · exact Or.inr (Or.inr rfl)
theorem szd_few {n : Int} {m : Nat} (h : szd n m = true) : 0 < m ∧ m ≤ 7 ∧ (m : Int) ≤ n ∧ fl n = true := by
  simp [szd] at h
  have := fl_cases h.1.1
  exact ⟨by omega, by omega, by omega, h.1.1⟩
/-- What Best answers. -/
def bsR (n : Int) (l : List Bal) : Int × Int × Int := if (plR n (l.map Bal.who)).2 = 0 then (((fsA ahB l l.length : Nat) : Int), (l.getD (fsA cmB l l.length) Bal.zero).cm, 0) else (0, 0, (plR n (l.map Bal.who)).2)
abbrev V3 (r : Int × Int × Int) : Value := .tuple #[.int .i64 r.1, .int .i64 r.2.1, .int .i64 r.2.2]

set_option maxHeartbeats 1600000 in
set_option maxRecDepth 1000000 in
theorem Best_any {w : World} {s : Value} {l : List Bal} (hs : BalsAt w s l) (hl : l.length ≤ 9223372036854775807) (n : Int) : Calls Try.prog 8 #[.int .i64 n, s] w fun e w' => e = .returned (V3 (bsR n l)) ∧ Below w.heap.size w w' := by
  have C1 := hid (places15 hs hl n)
  have HS := hid hs
  obtain ⟨ao, c, rfl⟩ := hs.form
  clear hs
  rcases plR_cases n (l.map Bal.who) with ⟨ps, hp, hz, _⟩ | hp | hp
  · have hf := szd_few hz
    rw [List.length_map] at hf
    obtain ⟨h0, h7, _, _⟩ := hf
    have eb : Hid (bsR n l = (((fsA ahB l l.length : Nat) : Int), (l.getD (fsA cmB l l.length) Bal.zero).cm, 0)) := hid (by simp [bsR, hp])
    rw [eb.out]
    rw [hp] at C1
    have ha : fsA ahB l l.length < l.length := fsA_lt _ _ h0 (Nat.le_refl _)
    have hc : fsA cmB l l.length < l.length := fsA_lt _ _ h0 (Nat.le_refl _)
    obtain ⟨y, hy⟩ : ∃ y, Hid (l[fsA cmB l l.length]? = some y) := ⟨_, hid (List.getElem?_eq_getElem hc)⟩
    have ey : Hid (l.getD (fsA cmB l l.length) Bal.zero = y) := hid (by rw [List.getD_eq_getElem?_getD, hy.out]; rfl)
    rw [ey.out]
    have F1 := hid (fun w1 (b : Below w.heap.size w w1) => ah18_first (HS.out.later b) h0 h7)
    have F2 := hid (fun w1 (b : Below w.heap.size w w1) => cm19_first (HS.out.later b) h0 h7)
    generalize fsA ahB l l.length = fa at *
    generalize fsA cmB l l.length = fc at *
    generalize hm : l.length = m at *
    clear hp hz eb ey hl hm
    go_enter Try.func8, Try.ntmps8
    go_wp2_with fail
    refine C1.out.mono ?_
    rintro e w1 ⟨rfl, b1⟩
    have C2 := hid (F1.out w1 b1)
    go_wp2_with fail
    refine C2.out.mono ?_
    rintro e w2 ⟨rfl, b2⟩
    have b2 := b1.trans (b2.mono b1.size)
    have C3 := hid (F2.out w2 b2)
    go_wp2_with fail
    refine C3.out.mono ?_
    rintro e w3 ⟨rfl, b3⟩
    have B3 := hid (b2.trans (b3.mono b2.size))
    obtain ⟨g, o, rfl, _, y0, y1, y2, y3⟩ := HS.out.at B3.out hy.out
    clear b1 b2 b3 C1 C2 C3 F1 F2
    have a1 : (0 : Int) ≤ (fc : Int) := by omega
    have a2 : (fc : Int) < (m : Int) := by omega
    go_upto_region 6 with fail
    go_quiet (fail)
    go_wp2
    go_ret3
    exact ⟨rfl, B3.out.trans ((bdN w3 _).mono B3.out.size)⟩
  all_goals
    have eb : Hid (bsR n l = (0, 0, (plR n (l.map Bal.who)).2)) := hid (by simp [bsR, hp])
    rw [eb.out]
    rw [hp] at C1 ⊢
    clear hp eb
    go_enter Try.func8, Try.ntmps8
    go_wp2_with fail
    refine C1.out.mono ?_
    rintro e w1 ⟨rfl, b1⟩
    go_wp2
    go_ret3
    exact ⟨rfl, b1⟩
end Go.Proofs.Ytjnbnmlggbfodaa

import Derived.Test.YtphcfkfdkaphbaaTAm
namespace Go.Proofs.Ytphcfkfdkaphbaa
open Go.RowKit
set_option linter.unusedVariables false

theorem stay_le (ts : List Tm) : (stayT ts).length ≤ ts.length := by
  unfold stayT
  simp only [List.length_map]
  exact List.length_filter_le _ _
theorem gone_le (ts : List Tm) : (goneT ts).length ≤ ts.length := by
  unfold goneT
  exact List.length_filter_le _ _
/-- A list that was handed out goes to the others. -/
theorem hold_add {D k i : Nat} {va vb : Value} {T : List Tq} {M : List Mk} {t t' : Tq} {c : Comp} {cs : List Comp} {W : World} {a1 am : Option Addr} {n1 k1 cm : Nat} {l : List Value}
    (hA : All (ownC 9 (.slice a1 n1 k1) l :: tabS t'.P t'.b (Maps.size t'.D) t'.D :: refC t'.R t'.v t'.ts :: (hdL D va vb (.slice am M.length cm) (pA T) (pB T) M ++ (OT T k ++ (c :: cs)))) W) (hT : T[k]? = some t) (hP : t'.P = t.P) (hR : t'.R = t.R) (hok : t'.ok) (hF : DF T M i) (hi : i ≤ 2932031007400) (hl : l.length ≤ 32) (s : ByteArray) :
    Calls Try.prog 44 #[.slice a1 n1 k1, .string s] W fun e w' => ∃ ao c, e = .returned (.agg #[.slice ao (l.length + 3) c, .string s]) ∧ w'.cell? ⟨D, 2, none⟩ = some (.slice am M.length cm) ∧ D < w'.heap.size ∧ (∃ ao2 c2 w3, (Builtin.append_ #[32, 32] 32 #[.slice am M.length cm, .slice (some ⟨w'.heap.size, 0, none⟩) 1 1]).run Try.prog (w'.alloc (.cells #[.slice ao (l.length + 3) c, .string s] 96)) = .ok (.slice ao2 (M.length + 1) c2) w3 ∧ w3.cell? ⟨D, 2, none⟩ = some (.slice am M.length cm) ∧ w3.frozen? ⟨D, 2, none⟩ = false ∧ Hid (DeskI D T.length (i + 1) cs (w3.setCell ⟨D, 2, none⟩ (.slice ao2 (M.length + 1) c2)))) := by
  have hMl : (M.length + 1) * 40 ≤ 140737488355328 := by have := hF.few; omega
  refine (hold_any hA s (by omega)).mono ?_
  rintro e w' ⟨ao, c', rfl, A8⟩
  obtain ⟨m1, m2, m3, ao2, c2, w9, m4, m5, m6, m7⟩ := mark_add (X := ⟨ao, l.length + 3, c', s⟩) A8 hMl
  refine ⟨ao, c', rfl, m1, m3, ao2, c2, w9, m4, m5, m6, hid ?_⟩
  have hF2 := hF.set (k := k) hok
  refine ⟨_, _, _, T.set k t', M ++ [⟨ao, l.length + 3, c', s⟩], by simp, ⟨hF2.ok, hF2.one, hF2.four, by have := hF.few; simp; omega, fun x hx => ?_⟩, (desk_in hT hP hR m7.out).mid⟩
  rcases List.mem_append.1 hx with hx | hx
  · exact hF.short x hx
  · have : x = ⟨ao, l.length + 3, c', s⟩ := by simpa using hx
    subst this
    show l.length + 3 ≤ 35
    omega
/-- What is left, there as here. -/
theorem RLeftS2 {R : Nat} {v : Value} {ts : List Tm} {D : DataW Unit} {cs : List Comp} {w : World} (h : All (refC R v ts :: cs) w) (hc : CpS D ts) (hl : ts.length ≤ 32) (s : ByteArray) : Calls Try.prog 46 #[.pointer (some ⟨R, 0, none⟩), .agg #[.string s, .int .i64 0]] w fun e w' => e = .returned (.tuple #[.int .i64 (leftD D (.string s.data.toList)), .bool (Maps.has D (.string s.data.toList))]) ∧ Below w.heap.size w w' := by
  obtain ⟨m, hm1, hm2, hm3⟩ := RLeftSP h hc hl s
  have hm : m = leftD D (.string s.data.toList) := by
    cases hh : Maps.has D (.string s.data.toList) with
    | true => exact hm2 hh
    | false => rw [hm1 hh, leftD_none hh]
  subst hm
  exact hm3
end Go.Proofs.Ytphcfkfdkaphbaa

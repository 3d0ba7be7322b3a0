import Derived.Test.YtdhkdniddjnigaaGreatDoorRes
namespace Go.Proofs.YtdhkdniddjnigaaGreatDoor
open Go.RowKit
set_option linter.unusedVariables false

def cdN : Ws := [[100, 111, 110, 101], [110, 111, 110, 101], [116, 104, 101, 114, 101], [102, 117, 108, 108], [101, 109, 112, 116, 121]]
/-- The codes' table. -/
def Cd (w : World) : Prop := 1 < w.heap.size ∧ ∀ k, k < 5 → w.cell? ⟨1, k, none⟩ = some (.string ⟨(cdN.getD k []).toArray⟩)
theorem Cd.later {w w' : World} (h : Cd w) (hb : Below w.heap.size w w') : Cd w' := ⟨Nat.lt_of_lt_of_le h.1 hb.size, fun k hk => cell_under hb h.1 (h.2 k hk)⟩
abbrev mkB (x : List UInt8) : ByteArray := ⟨x.toArray⟩
theorem Rt.txts {w : World} {s : Value} {l : Ws} (h : Rt w s l) : Txts w s (l.map mkB) := by
  obtain ⟨ao, c, e, hc, hx⟩ := h
  refine ⟨ao, c, by rw [e, List.length_map], by rw [List.length_map]; exact hc, ?_⟩
  rcases hx with rfl | ⟨g, o, ea, hg, hcell⟩
  · exact Or.inl rfl
  · refine Or.inr ⟨g, o, ea, hg, fun j hj => ?_⟩
    rw [List.length_map] at hj
    rw [hcell j hj, List.getElem_map]
/-- What CheckResult tells. -/
def chkW (c n : Int) (l : Ws) : Int := chkX c n (l.map mkB)
theorem check12 {w : World} (c n : Int) {s : Value} {l : Ws} (h : Rt w s l) (hl : l.length ≤ 140737488355328) : Calls Tryz.prog 98 #[resV c n s] w fun e w' => e = .returned (.int .i64 (chkW c n l)) ∧ Below w.heap.size w w' := checkX_any c n h.txts (by rw [List.length_map]; omega)
theorem check15 {w : World} (c n : Int) {s : Value} {l : Ws} (h : Rt w s l) (hl : l.length ≤ 140737488355328) : Calls Tryz.prog 71 #[resV c n s] w fun e w' => e = .returned (.int .i64 (chkW c n l)) ∧ Below w.heap.size w w' := checkX_ref c n h.txts (by rw [List.length_map]; omega)

set_option maxRecDepth 1000000 in
theorem clone_any {v : Value} {l : Ws} {cs : List Comp} {w : World} (A : All cs w) (h : Rt w v l) (hl : l.length * 16 ≤ 140737488355328) :
    Calls Tryz.prog 130 #[v] w fun e w' => ∃ v', e = .returned v' ∧ All (ownC 9 v' (txW l) :: cs) w' := by
  obtain ⟨ao0, c0, rfl⟩ := h.form
  obtain ⟨ao, c, w', hr, A2⟩ := appR (l := []) (own_new A [] (by simp)) (h.later (ba w _)) (by simpa using hl)
  rw [List.length_nil, Nat.zero_add, List.nil_append] at A2
  rw [List.length_nil, Nat.zero_add] at hr
  cases ao0 with
  | none =>
    have hl0 : l = [] := by
      obtain ⟨ao', c', e, _, hx⟩ := h
      rcases hx with rfl | ⟨g, o, rfl, _⟩
      · rfl
      · simp at e
    subst hl0
    have D := hid (All.addNil (e := 9) A)
    have he := fun w => Lib.run_eql_slice_nil (P := Tryz.prog) w 43 9 none 0 c0 0 0 Tryz.underlying43
    clear hr A2 A h hl
    go_enter Tryz.func130, Tryz.ntmps130
    go_wp2
    go_ret
    exact ⟨_, rfl, D.out⟩
  | some a =>
    have R : Hid ((Builtin.append_ #[43, 43] 43 #[.slice (some ⟨w.heap.size, 0, none⟩) 0 0, .slice (some a) l.length c0]).run Tryz.prog (w.alloc (.cells #[] 9)) = .ok (.slice ao l.length c) w') := hid hr
    have B := hid A2
    have he := fun w => Lib.run_eql_slice_nil (P := Tryz.prog) w 43 9 (some a) l.length c0 0 0 Tryz.underlying43
    clear hr A2 A h hl
    generalize hn : l.length = n at *
    clear hn
    go_enter Tryz.func130, Tryz.ntmps130
    go_wp2_with (at_builtin; refine wpList_append_run rfl _ _ 43 rfl _ _ _ _ rfl rfl R.out ?_)
    go_ret
    exact ⟨_, rfl, B.out⟩

set_option maxRecDepth 1000000 in
theorem codes_any {w : World} : Calls Tryz.prog 72 #[] w fun e w' => e = .returned (.slice (some ⟨w.heap.size, 0, none⟩) 5 5) ∧ w' = w.alloc (.cells (txW cdN).toArray 9) := by
  have e1 : (txW cdN).toArray = #[.string ⟨#[100, 111, 110, 101]⟩, .string ⟨#[110, 111, 110, 101]⟩, .string ⟨#[116, 104, 101, 114, 101]⟩, .string ⟨#[102, 117, 108, 108]⟩, .string ⟨#[101, 109, 112, 116, 121]⟩] := rfl
  rw [e1]
  clear e1
  go_enter Tryz.func72, Tryz.ntmps72
  go_wp2
  go_ret
  exact ⟨rfl, rfl⟩
theorem rt_codes (w : World) : Rt (w.alloc (.cells (txW cdN).toArray 9)) (.slice (some ⟨w.heap.size, 0, none⟩) 5 5) cdN := rt_own (own_new (All.came w) cdN (by simp [cdN]))
end Go.Proofs.YtdhkdniddjnigaaGreatDoor

import Derived.Test.YtkcepkehgkkkbabDoorDel
namespace Go.Proofs.YtkcepkehgkkkbabDoor
open Go.RowKit
set_option linter.unusedVariables false

theorem txtV_one (l : List ByteArray) : ∀ u ∈ txtV l, u.oneCell' = true := by
  intro u hu
  obtain ⟨_, _, rfl⟩ := List.mem_map.1 hu
  rfl

set_option maxHeartbeats 800000 in
set_option maxRecDepth 1000000 in
theorem tclone_some {w : World} (a : Addr) (c : Nat) (l : List ByteArray) (hc : ∀ j u, (txtV l)[j]? = some u → w.cell? (a.add j) = some u) (hg : l ≠ [] → ∃ g o, a = ⟨g, o, none⟩ ∧ g < w.heap.size) (hlen : l.length ≤ 1000) :
    Calls Tryd.prog 53 #[.slice (some a) l.length c] w fun e w' => ∃ s', e = .returned s' ∧ w'.ownsRow w.heap.size 9 1 s' l.length (txtV l) ∧ Below w.heap.size w w' := by
  obtain ⟨i0, hi, hz0, hz1, hz2⟩ := info_parts Tryd.info9
  have he := fun w => Lib.run_eql_slice_nil (P := Tryd.prog) w 28 9 (some a) l.length c 0 0 Tryd.underlying28
  have hnews : ∀ j u, (txtV l)[j]? = some u → (w.alloc (.cells #[] 9)).cell? (a.add j) = some u := by
    intro j u hu
    have hne : l ≠ [] := by rintro rfl; simp [txtV] at hu
    obtain ⟨g, o, rfl, hgl⟩ := hg hne
    have := hc j u hu
    rw [Addr.add_lit] at this ⊢
    rw [World.cell?_alloc_past _ _ _ hgl]
    exact this
  clear hc hg
  have h0 : (w.alloc (.cells #[] 9)).ownsRow w.heap.size 9 1 (.slice (some ⟨w.heap.size, 0, none⟩) 0 0) 0 [] := World.ownsRow_made w #[] 0 (Nat.le_refl _) (by unfold maxLen; omega) rfl
  go_enter Tryd.func53, Tryd.ntmps53
  go_wp2_with (at_builtin; refine wpList_append_own_at _ rfl (.tmp 5) (.tmp 6) 28 rfl w.heap.size 9 i0 (.string (.mk #[])) 1 16 Tryd.underlying28 hi hz0 hz1 hz2 rfl (by decide) _ _ _ rfl h0 a l.length c (txtV l) rfl (by rw [txtV_length]; omega) hnews (txtV_one _) (by unfold maxLen; omega) (by omega) (by simp) ?_)
  intro v' w1 hown hgr hnil hat
  have R : Hid (w1.ownsRow w.heap.size 9 1 v' l.length (txtV l) ∧ Below w.heap.size w w1) := by
    refine ⟨by simpa using hown, ((Below.refl _ _).alloc (Nat.le_refl _) _).grown hgr (by simp) (fun k hk => ?_)⟩
    simp [Value.ownBlock] at hk
    omega
  clear hown hgr hnil hat h0
  go_wp2
  go_ret
  exact ⟨v', rfl, R.out.1, R.out.2⟩

set_option maxHeartbeats 800000 in
set_option maxRecDepth 1000000 in
theorem tclone_none {w : World} (c : Nat) :
    Calls Tryd.prog 53 #[.slice none 0 c] w fun e w' => e = .returned (.slice none 0 0) ∧ w' = w := by
  have he := fun w => Lib.run_eql_slice_nil (P := Tryd.prog) w 28 9 none 0 c 0 0 Tryd.underlying28
  go_enter Tryd.func53, Tryd.ntmps53
  go_wp2
  go_ret
  exact ⟨rfl, rfl⟩

theorem tclone_any {w : World} {s : Value} {l : List ByteArray} (h : Txts w s l) (hlen : l.length ≤ 1000) :
    Calls Tryd.prog 53 #[s] w fun e w' => ∃ s', e = .returned s' ∧ w'.ownsRow w.heap.size 9 1 s' l.length (txtV l) ∧ Below w.heap.size w w' := by
  obtain ⟨ao, c, rfl, hc, hx⟩ := h
  have hx' : (l = [] ∧ ao = none) ∨ ∃ a, ao = some a ∧ (l ≠ [] → ∃ g o, a = ⟨g, o, none⟩ ∧ g < w.heap.size) ∧ ∀ j u, (txtV l)[j]? = some u → w.cell? (a.add j) = some u := by
    rcases hx with rfl | ⟨g, o, rfl, hg, hcell⟩
    · cases ao with
      | none => exact .inl ⟨rfl, rfl⟩
      | some a => exact .inr ⟨a, rfl, fun h => absurd rfl h, fun j u hu => by simp [txtV] at hu⟩
    · refine .inr ⟨_, rfl, fun _ => ⟨_, _, rfl, hg⟩, fun j u hu => ?_⟩
      simp only [txtV, List.getElem?_map] at hu
      obtain ⟨x, hx, rfl⟩ := Option.map_eq_some_iff.1 hu
      obtain ⟨hj, rfl⟩ := List.getElem?_eq_some_iff.1 hx
      rw [Addr.add_lit]
      exact hcell j hj
  rcases hx' with ⟨rfl, rfl⟩ | ⟨a, rfl, hg, hcell⟩
  · refine (tclone_none c).mono ?_
    rintro e w' ⟨rfl, rfl⟩
    exact ⟨_, rfl, World.ownsRow_nil _ _ _ _, Below.refl _ _⟩
  · exact tclone_some a c l hcell hg hlen

end Go.Proofs.YtkcepkehgkkkbabDoor

import Derived.Test.YthoppemjfdnibaaGreatDoorWriter
namespace Go.Proofs.YthoppemjfdnibaaGreatDoor
open Go.RowKit
set_option linter.unusedVariables false

theorem Reads.ofString (w : World) (s : ByteArray) (cap : Nat) (fr : Nat × Nat) (hc : s.size ≤ cap) : Reads (w.alloc (.cells (bytesRow s cap) 5 fr)).drew (.slice (some ⟨w.heap.size, 0, none⟩) s.size cap) s.data.toList := by
  refine ⟨_, _, rfl, hc, Or.inr ⟨_, _, rfl, by show w.heap.size < (w.alloc _).heap.size; simp, ?_⟩⟩
  intro j u hu
  have hj : j < s.data.size := by
    have := (List.getElem?_eq_some_iff.1 hu).1
    simpa [cellsB] using this
  show (w.alloc _).cell? _ = _
  rw [cell_at (heap_alloc_new w _), Nat.zero_add, bytesRow_at s cap j hj]
  rw [← hu]
  simp only [cellsB, List.getElem?_map, Array.getElem?_toList, Array.getElem?_eq_getElem hj]
  rfl

set_option maxHeartbeats 800000 in
set_option maxRecDepth 1000000 in
theorem text_any {w : World} {b : Nat} {v : Value} {st : Option (List UInt8)} (h : Wst w b v st) (s : ByteArray) (hlen : lenS st + s.size + 10 ≤ 140737488355328) :
    Calls Tryz.prog 165 #[.pointer (some ⟨b, 0, none⟩), .string s] w fun e w' => e = .returned (.tuple #[]) ∧ ∃ v', Wst w' b v' (addS st (enc 9 s.size ++ s.data.toList)) ∧ WStep b w v w' v' := by
  have HH : Hid (Wst w b v st) := h; clear h
  have hcv := fun w s => run_bytes_of_string (P := Tryz.prog) w 9 40 5 s Tryz.underlying9 Tryz.underlying40 Tryz.underlying5
  go_enter Tryz.func165, Tryz.ntmps165
  go_wp2_with fail
  have hb : Below w.heap.size w (w.alloc (.cells (bytesRow s (grownCap w s.size 0 5)) 5 ((bytesRow s (grownCap w s.size 0 5)).size, (bytesRow s (grownCap w s.size 0 5)).size + 1))).drew := ((Below.refl _ _).alloc (Nat.le_refl _) _).drew
  have hlt := HH.out.lt
  have hown := HH.out.own_lt
  refine (bytes_any (HH.out.below hb) (Reads.ofString w s _ _ (grownCap_ge w s.size 0 5)) ?_ ?_).mono ?_
  · intro k hk
    simp [Value.ownBlock] at hk
    subst hk
    refine ⟨by omega, fun e => ?_⟩
    have := (hown _ e).2
    omega
  · have : s.data.toList.length = s.size := rfl
    omega
  rintro e w1 ⟨rfl, v1, h3, h4⟩
  have H1 : Hid _ := h3
  have H2 : Hid _ := (WStep.of_below hb).trans h4
  clear h3 h4 hb hown hlt
  go_wp2
  go_end0
  exact ⟨rfl, v1, H1.out, H2.out⟩

set_option maxHeartbeats 800000 in
set_option maxRecDepth 1000000 in
theorem clone_some {w : World} (g o c : Nat) (l : List UInt8) (hc : ∀ j u, (cellsB l)[j]? = some u → w.cell? ⟨g, o + j, none⟩ = some u) (hg : g < w.heap.size) (hlen : l.length ≤ 140737488355328) :
    Calls Tryz.prog 84 #[.slice (some ⟨g, o, none⟩) l.length c] w fun e w' => ∃ s', e = .returned s' ∧ w'.ownsRow w.heap.size 5 1 s' l.length (cellsB l) ∧ Below w.heap.size w w' := by
  obtain ⟨i0, hi, hz0, hz1, hz2⟩ := info_parts Tryz.info5
  have he := fun w => Lib.run_eql_slice_nil (P := Tryz.prog) w 40 5 (some ⟨g, o, none⟩) l.length c 0 0 Tryz.underlying40
  have hnews : ∀ j u, (cellsB l)[j]? = some u → (w.alloc (.cells #[] 5)).cell? ((⟨g, o, none⟩ : Addr).add j) = some u := by
    intro j u hu
    rw [Addr.add_lit, World.cell?_alloc_past _ _ _ hg]
    exact hc j u hu
  clear hc
  have h0 : (w.alloc (.cells #[] 5)).ownsRow w.heap.size 5 1 (.slice (some ⟨w.heap.size, 0, none⟩) 0 0) 0 [] := World.ownsRow_made w #[] 0 (Nat.le_refl _) (by unfold maxLen; omega) rfl
  go_enter Tryz.func84, Tryz.ntmps84
  go_wp2_with (at_builtin; refine wpList_append_own_at _ rfl (.tmp 5) (.tmp 6) 40 rfl w.heap.size 5 i0 (.int .u8 0) 1 1 Tryz.underlying40 hi hz0 hz1 hz2 rfl (by decide) _ _ _ rfl h0 ⟨g, o, none⟩ l.length c (cellsB l) rfl (by rw [cellsB_length]; omega) hnews (cellsB_one _) (by unfold maxLen; omega) (by omega) (by simp) ?_)
  intro v' w1 hown hgr hnil hat
  have R : Hid (w1.ownsRow w.heap.size 5 1 v' l.length (cellsB l) ∧ Below w.heap.size w w1) := by
    refine ⟨by simpa using hown, ((Below.refl _ _).alloc (Nat.le_refl _) _).grown hgr (by simp) (fun k hk => ?_)⟩
    simp [Value.ownBlock] at hk
    omega
  clear hown hgr hnil hat h0
  go_wp2
  go_ret
  exact ⟨v', rfl, R.out.1, R.out.2⟩

set_option maxHeartbeats 800000 in
set_option maxRecDepth 1000000 in
theorem clone_none {w : World} :
    Calls Tryz.prog 84 #[.slice none 0 0] w fun e w' => e = .returned (.slice none 0 0) ∧ w' = w := by
  have he := fun w => Lib.run_eql_slice_nil (P := Tryz.prog) w 40 5 none 0 0 0 0 Tryz.underlying40
  go_enter Tryz.func84, Tryz.ntmps84
  go_wp2
  go_ret
  exact ⟨rfl, rfl⟩

theorem clone_any {w : World} {s : Value} {l : List UInt8} (h : Reads w s l) (hlen : l.length ≤ 140737488355328) :
    Calls Tryz.prog 84 #[s] w fun e w' => ∃ s', e = .returned s' ∧ w'.ownsRow w.heap.size 5 1 s' l.length (cellsB l) ∧ Below w.heap.size w w' := by
  obtain ⟨ao, c, rfl, hc, ⟨rfl, rfl, rfl⟩ | ⟨g, o, rfl, hg, hcell⟩⟩ := h
  · refine clone_none.mono ?_
    rintro e w' ⟨rfl, rfl⟩
    exact ⟨_, rfl, World.ownsRow_nil _ _ _ _, Below.refl _ _⟩
  · exact clone_some g o c l hcell hg hlen

/-- A slice that is owned: its shape. -/
theorem owns_form {w : World} {base : Nat} {e : TypeId} {size : Nat} {v : Value} {n : Nat} {xs : List Value} (h : w.ownsRow base e size v n xs) : ∃ ao cap, v = .slice ao n cap := by
  rcases h.2 with ⟨rfl, e⟩ | ⟨g, cap, _, rfl, _⟩
  · exact ⟨none, 0, by rw [e]⟩
  · exact ⟨_, cap, rfl⟩

set_option maxHeartbeats 800000 in
set_option maxRecDepth 1000000 in
theorem done_whole {w : World} {b : Nat} {v : Value} {bs : List UInt8} (h : Wst w b v (some bs)) (hlen : bs.length ≤ 140737488355328) :
    Calls Tryz.prog 43 #[.pointer (some ⟨b, 0, none⟩)] w fun e w' => ∃ s', e = .returned (.tuple #[s', .int .i64 0]) ∧ w'.ownsRow w.heap.size 5 1 s' bs.length (cellsB bs) ∧ Below w.heap.size w w' := by
  have HR : Hid (Reads w v bs) := Reads.of_owns h.row
  obtain ⟨ao, cap, rfl⟩ := Wr.form h
  have c0 : w.cell? ⟨b, 0, none⟩ = some (.slice ao bs.length cap) := by rw [cell_at h.box]; rfl
  have c1 : w.cell? ⟨b, 1, none⟩ = some (.bool false) := by rw [cell_at h.box]; rfl
  clear h
  go_enter Tryz.func43, Tryz.ntmps43
  go_wp2_with fail
  refine (clone_any HR.out hlen).mono ?_
  rintro e w1 ⟨s', rfl, h1, h2⟩
  have R : Hid _ := And.intro h1 h2
  obtain ⟨ao', cap', rfl⟩ := owns_form h1
  clear h1 h2
  go_wp2
  go_ret2
  exact ⟨_, rfl, R.out.1, R.out.2⟩

set_option maxHeartbeats 800000 in
set_option maxRecDepth 1000000 in
theorem done_broken {w : World} {b : Nat} {v : Value} (h : Wst w b v none) :
    Calls Tryz.prog 43 #[.pointer (some ⟨b, 0, none⟩)] w fun e w' => e = .returned (.tuple #[.slice none 0 0, .int .i64 1]) ∧ w' = w := by
  have c1 : w.cell? ⟨b, 1, none⟩ = some (.bool true) := by rw [cell_at h.2]; rfl
  clear h
  go_enter Tryz.func43, Tryz.ntmps43
  go_wp2
  go_ret2
  exact ⟨rfl, rfl⟩
end Go.Proofs.YthoppemjfdnibaaGreatDoor

import Derived.Test.YthoppemjfdnibaaGreatDoorState
namespace Go.Proofs.YthoppemjfdnibaaGreatDoor
open Go.RowKit
set_option linter.unusedVariables false

theorem Tryz.info5 : (Tryz.prog.info? 5).map (fun i => (i.zero, i.size, i.bytes)) = some (some (.int .u8 0), 1, 1) := by kernel_rfl

/-- What append and the store leave. -/
theorem put_after {w w1 : World} {b : Nat} {v v' : Value} {bs news : List UInt8} (h : Wr w b v bs) (hown : w1.ownsRow (b + 1) 5 1 v' (bs.length + news.length) (cellsB bs ++ cellsB news))
    (hg : w.grownBy w1 v.ownBlock) (hat : v'.ownBlock = v.ownBlock ∨ v'.ownBlock = some w.heap.size) :
    Wr (w1.setCell ⟨b, 0, none⟩ v') b v' (bs ++ news) ∧ WStep b w v (w1.setCell ⟨b, 0, none⟩ v') v' := by
  have hb := h.lt
  have hne : some b ≠ v.ownBlock := by
    intro e
    have := (h.row.lt b e.symm).1
    omega
  have hbox : w1.heap[b]? = some (.cells #[v, .bool false] 99 (0, 0)) := by rw [hg.block b hb hne]; exact h.box
  have hs : (w1.setCell ⟨b, 0, none⟩ v').heap.size = w1.heap.size := by simp [World.setCell]
  refine ⟨⟨?_, ?_⟩, ⟨hg.os, hg.tape, hg.output, ?_, ?_, ?_⟩⟩
  · rw [heap_setCell_same hbox]; simp
  · rw [cellsB_append, List.length_append]
    exact ownsRow_setCell_below hown (by simp) v'
  · rw [hs]; exact hg.size
  · intro k hk hkb hkv
    rw [Below.heap_setCell _ _ _ _ (by simpa using hkb)]
    exact hg.block k hk hkv
  · intro k hk
    rcases hat with e | e
    · exact Or.inl (e.symm.trans hk)
    · rw [e] at hk; simp at hk; exact Or.inr (by omega)

theorem put_cell {w w1 : World} {b : Nat} {v : Value} {bs : List UInt8} (h : Wr w b v bs) (hg : w.grownBy w1 v.ownBlock) : (w1.cell? ⟨b, 0, none⟩).isSome = true ∧ w1.frozen? ⟨b, 0, none⟩ = false := by
  have hb := h.lt
  have hne : some b ≠ v.ownBlock := by
    intro e
    have := (h.row.lt b e.symm).1
    omega
  have hbox : w1.heap[b]? = some (.cells #[v, .bool false] 99 (0, 0)) := by rw [hg.block b hb hne]; exact h.box
  exact ⟨by rw [cell_at hbox]; rfl, free_at hbox 0⟩

set_option maxHeartbeats 800000 in
set_option maxRecDepth 1000000 in
/-- put, of a slice that has an address. -/
theorem put_some {w : World} {b : Nat} {v : Value} {bs news : List UInt8} (h : Wr w b v bs) (g o c : Nat) (hc : ∀ j u, (cellsB news)[j]? = some u → w.cell? ((⟨g, o, none⟩ : Addr).add j) = some u)
    (hlen : bs.length + news.length ≤ 140737488355328) :
    Calls Tryz.prog 146 #[.pointer (some ⟨b, 0, none⟩), .slice (some ⟨g, o, none⟩) news.length c] w fun e w' => e = .returned (.tuple #[]) ∧ ∃ v', Wr w' b v' (bs ++ news) ∧ WStep b w v w' v' := by
  obtain ⟨i0, hi, hz0, hz1, hz2⟩ := info_parts Tryz.info5
  obtain ⟨ao, cap, rfl⟩ := h.form
  have c0 : w.cell? ⟨b, 0, none⟩ = some (.slice ao bs.length cap) := by rw [cell_at h.box]; rfl
  have c1 : w.cell? ⟨b, 1, none⟩ = some (.bool false) := by rw [cell_at h.box]; rfl
  have H := h
  have hlt := h.lt
  have hrow := h.row
  have HH : Hid (Wr w b (.slice ao bs.length cap) bs) := H
  clear H h
  go_enter Tryz.func146, Tryz.ntmps146
  go_wp2_with (at_builtin; refine wpList_append_own_at _ rfl (.tmp 13) (.tmp 14) 40 rfl (b + 1) 5 i0 (.int .u8 0) 1 1 Tryz.underlying40 hi hz0 hz1 hz2 rfl (by decide) _ _ _ rfl hrow ⟨g, o, none⟩ news.length c (cellsB news) rfl (by rw [cellsB_length]; omega) hc (cellsB_one _) (by unfold maxLen; omega) (by omega) (by omega) ?_)
  intro v' w1 hown hg hnil hat
  have R := put_after HH.out hown hg hat
  have k0 : (w1.cell? ⟨b, 0, none⟩).isSome = true ∧ w1.frozen? ⟨b, 0, none⟩ = false := put_cell HH.out hg
  obtain ⟨k0, k1⟩ := k0
  obtain ⟨u0, k0⟩ := Option.isSome_iff_exists.1 k0
  obtain ⟨ao', cap', hv⟩ : ∃ ao' cap', v' = .slice ao' (bs.length + news.length) cap' := by
    rcases hown.2 with ⟨e, h0⟩ | ⟨g, cap', _, e, _⟩
    · exact ⟨none, 0, by rw [e, h0]⟩
    · exact ⟨_, cap', e⟩
  clear hown hg hat hnil c0 c1 hrow
  rw [hv] at R ⊢
  clear hv
  have R' := R; clear R
  have RR : Hid _ := R'; clear R'
  go_wp2
  go_end0
  exact ⟨rfl, _, RR.out⟩
set_option maxHeartbeats 800000 in
set_option maxRecDepth 1000000 in
/-- put, of nil. -/
theorem put_none {w : World} {b : Nat} {v : Value} {bs : List UInt8} (h : Wr w b v bs) :
    Calls Tryz.prog 146 #[.pointer (some ⟨b, 0, none⟩), .slice none 0 0] w fun e w' => e = .returned (.tuple #[]) ∧ ∃ v', Wr w' b v' bs ∧ WStep b w v w' v' := by
  obtain ⟨i0, hi, hz0, hz1, hz2⟩ := info_parts Tryz.info5
  obtain ⟨ao, cap, rfl⟩ := h.form
  have c0 : w.cell? ⟨b, 0, none⟩ = some (.slice ao bs.length cap) := by rw [cell_at h.box]; rfl
  have c1 : w.cell? ⟨b, 1, none⟩ = some (.bool false) := by rw [cell_at h.box]; rfl
  have f0 := free_at h.box 0
  have R := put_after (news := []) h (w1 := w) (v' := .slice ao bs.length cap) (by simpa [cellsB] using h.row) ⟨rfl, rfl, rfl, Nat.le_refl _, fun _ _ _ => rfl⟩ (Or.inl rfl)
  rw [List.append_nil] at R
  have RR : Hid _ := R; clear R
  have hrow := h.row
  clear h
  go_enter Tryz.func146, Tryz.ntmps146
  go_wp2_with (at_builtin; refine wpList_append_own_none rfl (.tmp 13) (.tmp 14) 40 rfl (b + 1) 5 i0 1 Tryz.underlying40 hi _ _ _ rfl hrow rfl ?_)
  go_end0
  exact ⟨rfl, _, RR.out⟩

set_option maxHeartbeats 800000 in
set_option maxRecDepth 1000000 in
/-- put of a broken writer. -/
theorem put_broken {w : World} {b : Nat} {v : Value} (s : Value) (h : Wst w b v none) :
    Calls Tryz.prog 146 #[.pointer (some ⟨b, 0, none⟩), s] w fun e w' => e = .returned (.tuple #[]) ∧ w' = w := by
  have c1 : w.cell? ⟨b, 1, none⟩ = some (.bool true) := by rw [cell_at h.2]; rfl
  clear h
  go_enter Tryz.func146, Tryz.ntmps146
  go_wp2
  go_end0
  exact ⟨rfl, rfl⟩

/-- put, of whatever. -/
theorem put_any {w : World} {b : Nat} {v : Value} {st : Option (List UInt8)} (h : Wst w b v st) {s : Value} {l : List UInt8} (hs : Reads w s l) (hlen : lenS st + l.length ≤ 140737488355328) :
    Calls Tryz.prog 146 #[.pointer (some ⟨b, 0, none⟩), s] w fun e w' => e = .returned (.tuple #[]) ∧ ∃ v', Wst w' b v' (addS st l) ∧ WStep b w v w' v' := by
  cases st with
  | none =>
    refine (put_broken s h).mono ?_
    rintro e w' ⟨rfl, rfl⟩
    exact ⟨rfl, v, h, WStep.refl _ _ _⟩
  | some bs =>
    obtain ⟨ao, c, rfl, hc, hcase⟩ := hs
    rcases hcase with ⟨rfl, rfl, rfl⟩ | ⟨g, o, rfl, hg, hcell⟩
    · refine (put_none h).mono ?_
      rintro e w' ⟨rfl, v', h1, h2⟩
      exact ⟨rfl, v', by simpa [addS, Wst] using h1, h2⟩
    · refine (put_some h g o c (by simpa [Addr.add_lit] using hcell) (by simpa [lenS] using hlen)).mono ?_
      rintro e w' ⟨rfl, v', h1, h2⟩
      exact ⟨rfl, v', by simpa [addS, Wst] using h1, h2⟩

end Go.Proofs.YthoppemjfdnibaaGreatDoor

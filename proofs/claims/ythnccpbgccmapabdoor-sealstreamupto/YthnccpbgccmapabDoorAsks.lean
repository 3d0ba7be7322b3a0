import Derived.Test.YthnccpbgccmapabDoorFeed2
import Derived.Test.YthnccpbgccmapabDoorWhole
namespace Go.Proofs.YthnccpbgccmapabDoor
open Go.RowKit
set_option linter.unusedVariables false
attribute [local go_sem ↓] Go.wp_at_zero Go.wp_at_succ

def nilS : Value := .slice none 0 0

/-- A stream that has taken nothing. -/
theorem new_stream {cs : List Comp} {w w1 : World} (h : All cs w) (hb : Below w.heap.size w w1) :
    All (stC w1.heap.size (.slice none 0 0) .init (.slice none 0 0) 0 :: rowC (.slice none 0 0) [] :: qC (.slice none 0 0) [] :: cs) (w1.alloc (.cells #[.slice none 0 0, .int .i64 0, .int .i64 0, .int .u32 4294967295, .slice none 0 0, .int .i64 0] 56)) := by
  have h1 := h.later hb
  have h2 : All (rowC (.slice none 0 0) [] :: qC (.slice none 0 0) [] :: cs) w1 :=
    ⟨⟨rowC_good _ _, owns_nil _ _, fun k hk => by simp [rowC, Value.ownBlock] at hk⟩, fun d hd k hk => by simp [rowC, Value.ownBlock] at hk,
      ⟨qC_good _ _, Or.inl ⟨rfl, rfl⟩, fun k hk => by simp [qC, Value.ownBlock] at hk⟩, fun d hd k hk => by simp [qC, Value.ownBlock] at hk, h1⟩
  refine h2.add (Fr.below (ba w1 _)) (stC_good _ _ _ _ _) ?_ (fun k hk => ?_)
  · exact heap_alloc_new w1 _
  · have : k = w1.heap.size := by simpa [stC] using hk
    subst this
    exact ⟨Nat.le_refl _, by simp⟩

set_option maxHeartbeats 1600000 in
set_option maxRecDepth 1000000 in
theorem NewStream_st {cs : List Comp} {w : World} (h : All cs w) : Calls Tryd.prog 7 #[] w fun e w' => ∃ P, e = .returned (.pointer (some ⟨P, 0, none⟩)) ∧ All (stC P (.slice none 0 0) .init (.slice none 0 0) 0 :: rowC (.slice none 0 0) [] :: qC (.slice none 0 0) [] :: cs) w' := by
  have H := hid h
  clear h
  go_enter Tryd.func7, Tryd.ntmps7
  go_wp2_with fail
  refine newLook_any.mono ?_
  rintro e w1 ⟨rfl, hb⟩
  have B := hid hb
  clear hb
  go_wp2
  go_ret
  exact ⟨_, rfl, new_stream H.out B.out⟩

set_option maxHeartbeats 1600000 in
set_option maxRecDepth 1000000 in
theorem Lost_st {w : World} {P : Nat} {hv fv : Value} {s : Lk} {L : Nat} (h : StB w P hv s fv L) : Calls Tryd.prog 15 #[.pointer (some ⟨P, 0, none⟩)] w fun e w' => e = .returned (.int .i64 (L : Int)) ∧ ∃ q, w' = w.drewN q := by
  have c5 := h.c5
  clear h
  go_enter Tryd.func15, Tryd.ntmps15
  go_wp2
  go_ret
  exact ⟨rfl, 0, rfl⟩

set_option maxHeartbeats 1600000 in
set_option maxRecDepth 1000000 in
theorem Held_st {w : World} {P : Nat} {hv fv : Value} {s : Lk} {L : Nat} {l : List UInt8} (h : StB w P hv s fv L) (hr : w.ownsRow 0 5 1 hv l.length (cellsB l)) : Calls Tryd.prog 16 #[.pointer (some ⟨P, 0, none⟩)] w fun e w' => e = .returned (.int .i64 (l.length : Int)) ∧ ∃ q, w' = w.drewN q := by
  obtain ⟨x, y, hv'⟩ := owns_form hr
  subst hv'
  have c0 := h.c0
  clear h hr
  go_enter Tryd.func16, Tryd.ntmps16
  go_wp2
  go_ret
  exact ⟨rfl, 0, rfl⟩

set_option maxHeartbeats 1600000 in
set_option maxRecDepth 1000000 in
theorem Next_none {w : World} {P : Nat} {hv fv : Value} {s : Lk} {L : Nat} (h : StB w P hv s fv L) (hq : Que w fv []) : Calls Tryd.prog 13 #[.pointer (some ⟨P, 0, none⟩)] w fun e w' => e = .returned (.tuple #[.slice none 0 0, .bool false]) ∧ ∃ q, w' = w.drewN q := by
  obtain ⟨ao, cap, rfl⟩ := hq.form
  have c4 := h.c4
  rw [List.length_nil] at c4
  clear h hq
  go_enter Tryd.func13, Tryd.ntmps13
  go_wp2
  go_ret2
  exact ⟨rfl, 0, rfl⟩

theorem next_after {w : World} {P g o cap : Nat} {hv v : Value} {s : Lk} {L : Nat} {vs : List Value} {cs : List Comp} {ad : Addr} (h : All (stC P hv s (.slice (some ⟨g, o, none⟩) (vs.length + 1) cap) L :: qC (.slice (some ⟨g, o, none⟩) (vs.length + 1) cap) (v :: vs) :: cs) w) (had : ad = (if cap = 1 then ⟨g, o, none⟩ else ⟨g, o + 1, none⟩)) :
    All (stC P hv s (.slice (some ad) vs.length (cap - 1)) L :: qC (.slice (some ad) vs.length (cap - 1)) vs :: cs) ((w.setCell ⟨g, o, none⟩ (.slice none 0 0)).setCell ⟨P, 4, none⟩ (.slice (some ad) vs.length (cap - 1))) := by
  have hq : Que w (.slice (some ⟨g, o, none⟩) (vs.length + 1) cap) (v :: vs) := h.2.2.1.2.1
  rcases hq with ⟨e, _⟩ | ⟨g', o', cap', cur, e, hg, hoc, hn, hm, hcur⟩
  · cases e
  · simp only [Value.slice.injEq, Option.some.injEq, Addr.mk.injEq] at e
    obtain ⟨⟨rfl, rfl, _⟩, _, rfl⟩ := e
    simp only [List.length_cons] at hn
    have hglt := (Array.getElem?_eq_some_iff.1 hg).1
    have hob : ad.block = g := by rw [had]; split <;> rfl
    have hobn : (Value.slice (some ad) vs.length (cap - 1)).ownBlock = some g := by simp [Value.ownBlock, hob]
    have h1 : All (qC (.slice (some ad) vs.length (cap - 1)) vs :: stC P hv s (.slice (some ⟨g, o, none⟩) (vs.length + 1) cap) L :: cs) (w.setCell ⟨g, o, none⟩ (.slice none 0 0)) := by
      refine h.swap.turn (Fr.mono (Fr.setCell w g o _) (fun k hk => by simpa [qC, Value.ownBlock] using hk)) (qC_good _ _) ?_ (fun k hk => ?_) (fun k hk => ?_)
      · have hg' := heap_setCell_same (j := o) hg (Value.slice none 0 0)
        by_cases hc : cap = 1
        · have : vs = [] := List.eq_nil_of_length_eq_zero (by omega)
          subst this
          rw [if_pos hc] at had
          subst had
          exact Or.inr ⟨g, o, cap - 1, _, rfl, hg', by simp; omega, by simp, by omega, fun j u hu => by simp at hu⟩
        · rw [if_neg hc] at had
          subst had
          refine Or.inr ⟨g, o + 1, cap - 1, _, rfl, hg', by simp; omega, by omega, by omega, fun j u hu => ?_⟩
          have := hcur (j + 1) u (by simpa using hu)
          simp only [Array.getElem?_setIfInBounds]
          rw [if_neg (by omega), show o + 1 + j = o + (j + 1) by omega]
          exact this
      · have : (Value.slice (some ad) vs.length (cap - 1)).ownBlock = some k := by simpa [qC] using hk
        rw [hobn] at this
        exact Or.inl (by simpa [qC, Value.ownBlock] using this.symm)
      · have : (Value.slice (some ad) vs.length (cap - 1)).ownBlock = some k := by simpa [qC] using hk
        rw [hobn] at this
        cases this
        simpa [World.setCell] using hglt
    have hst : StB (w.setCell ⟨g, o, none⟩ (.slice none 0 0)) P hv s (.slice (some ⟨g, o, none⟩) (vs.length + 1) cap) L := h1.swap.1.2.1
    exact h1.swap.st_turn (hst.set4 _) (Fr.setCell _ P 4 _)

set_option maxHeartbeats 3200000 in
set_option maxRecDepth 1000000 in
theorem Next_some {w : World} {P : Nat} {hv fv v : Value} {s : Lk} {L : Nat} {vs : List Value} {cs : List Comp} (h : All (stC P hv s fv L :: qC fv (v :: vs) :: cs) w) (hl : vs.length ≤ 1099511627776) : Calls Tryd.prog 13 #[.pointer (some ⟨P, 0, none⟩)] w fun e w' => e = .returned (.tuple #[v, .bool true]) ∧ ∃ fv', All (stC P hv s fv' L :: qC fv' vs :: cs) w' := by
  have hq : Que w fv (v :: vs) := h.2.2.1.2.1
  have hst : StB w P hv s fv L := h.1.2.1
  rcases hq with ⟨_, e⟩ | ⟨g, o, cap, cur, rfl, hg, hoc, hn, hm, hcur⟩
  · cases e
  simp only [List.length_cons] at hn hst h ⊢
  have c4 := hst.c4
  have f4 := hst.free 4
  have hgP : g ≠ P := by
    intro e
    have := h.2.1 (qC (.slice (some ⟨g, o, none⟩) (vs.length + 1) cap) (v :: vs)) (by simp) P (by simp [stC])
    exact this (by simp [qC, Value.ownBlock, e])
  have q0 : w.cell? ⟨g, o, none⟩ = some v := by rw [cell_at hg]; exact hcur 0 v rfl
  have fq0 : w.frozen? ⟨g, o, none⟩ = false := free_at hg o
  have c4' : (w.setCell ⟨g, o, none⟩ (.slice none 0 0)).cell? ⟨P, 4, none⟩ = some (.slice (some ⟨g, o, none⟩) (vs.length + 1) cap) := by
    exact (World.cell?_setCell_other _ _ _ _ (fun e => hgP (congrArg Addr.block e))).trans c4
  have f4' : (w.setCell ⟨g, o, none⟩ (.slice none 0 0)).frozen? ⟨P, 4, none⟩ = false := by
    rw [World.frozen?_setCell]
    exact f4
  have H := hid h
  clear h hst hcur hg hgP
  by_cases hc : cap = 1
  · subst hc
    have hv0 : vs.length = 0 := by omega
    have N := hid (next_after H.out (ad := ⟨g, o, none⟩) rfl)
    rw [hv0] at c4 c4' N
    clear H hv0 hn
    go_enter Tryd.func13, Tryd.ntmps13
    go_wp2
    go_ret2
    exact ⟨rfl, _, N.out⟩
  · have N := hid (next_after H.out (ad := ⟨g, o + 1, none⟩) (by rw [if_neg hc]))
    clear H
    have hc1 : 1 < cap := by omega
    clear hc
    go_enter Tryd.func13, Tryd.ntmps13
    go_wp2
    go_ret2
    exact ⟨rfl, _, N.out⟩
end Go.Proofs.YthnccpbgccmapabDoor

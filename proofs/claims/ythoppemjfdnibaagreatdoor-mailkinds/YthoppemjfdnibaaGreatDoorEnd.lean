import Derived.Test.YthoppemjfdnibaaGreatDoorReader
namespace Go.Proofs.YthoppemjfdnibaaGreatDoor
open Go.RowKit
set_option linter.unusedVariables false

theorem Reads.cut {w : World} {ao : Option Addr} {c size : Nat} {rs : List UInt8} (h : Reads w (.slice ao rs.length c) rs) (hs : size ≤ rs.length) :
    Reads w (.slice (if c = size then ao else ao.map (·.add size)) (rs.length - size) (c - size)) (rs.drop size) ∧ ∀ k, Value.ownBlock (.slice (if c = size then ao else ao.map (·.add size)) (rs.length - size) (c - size)) = some k → Value.ownBlock (.slice ao rs.length c) = some k := by
  obtain ⟨ao', c', e, hc, hcase⟩ := h
  simp only [Value.slice.injEq] at e
  obtain ⟨rfl, _, rfl⟩ := e
  have hl : rs.length - size = (rs.drop size).length := by simp
  rw [hl]
  rcases hcase with ⟨rfl, rfl, rfl⟩ | ⟨g, o, rfl, hg, hcell⟩
  · have : size = 0 := by simpa using hs
    subst this
    exact ⟨⟨none, 0, by simp, by simp, Or.inl ⟨rfl, by simp, rfl⟩⟩, fun k hk => by simpa using hk⟩
  · by_cases hcs : c = size
    · rw [if_pos hcs]
      refine ⟨⟨_, _, rfl, by simp; omega, Or.inr ⟨g, o, rfl, hg, fun j u hu => ?_⟩⟩, fun k hk => by simpa [Value.ownBlock] using hk⟩
      have : rs.drop size = [] := List.drop_eq_nil_of_le (by omega)
      rw [this] at hu
      simp [cellsB] at hu
    · rw [if_neg hcs]
      refine ⟨⟨_, _, rfl, by simp; omega, Or.inr ⟨g, o + size, by simp [Addr.add_lit], hg, fun j u hu => ?_⟩⟩, fun k hk => by simpa [Value.ownBlock, Addr.add_lit] using hk⟩
      have := hcell (size + j) u (by rw [← hu]; simp [cellsB])
      rw [Nat.add_assoc]
      exact this

set_option maxHeartbeats 1600000 in
set_option maxRecDepth 1000000 in
theorem end_bad {w : World} {b t : Nat} {D : Option Nat} {rv rvt : Value} {rs : List UInt8} {place : Nat} {err size e0 : Int} (u : FrameMode) (h : Rd w b D rv rs place err) (hI : Item w t rvt size e0) (he : e0 ≠ 0) :
    CallsD Tryz.prog 137 #[.pointer (some ⟨b, 0, none⟩), .pointer (some ⟨t, 0, none⟩)] u w fun e u' w' => u' = u ∧ (e = .returned (.tuple #[]) ∧ (∃ rv', Rd w' b D rv' [] place (keepE err e0)) ∧ Only b w w') := by
  have c2 : w.cell? ⟨t, 2, none⟩ = some (.int .i64 e0) := by rw [cell_at hI]; rfl
  have hb : (e0 != 0) = true := by simpa using he
  have HH : Hid _ := h
  clear h hI
  go_enter_d Tryz.func137, Tryz.ntmps137
  go_wp2_with fail
  refine (rfail_any HH.out e0 he).mono ?_
  rintro e w1 ⟨rfl, h1, h2⟩
  have H1 : Hid _ := h1
  have H2 : Hid _ := h2
  clear h1 h2
  go_wp2
  refine bodyPost_ret (results_none rfl _ _ _) rfl ?_
  exact ⟨rfl, H1.out, H2.out⟩

theorem Rd.drew {w : World} {b : Nat} {D : Option Nat} {rv : Value} {rs : List UInt8} {place : Nat} {err : Int} (h : Rd w b D rv rs place err) : Rd w.drew b D rv rs place err := h.kept (Nat.le_refl _) rfl (fun _ _ => rfl)

theorem end_after {w : World} {b : Nat} {D : Option Nat} {rv rv' : Value} {rs rs' : List UInt8} {place : Nat} {err : Int} (h : Rd w b D rv rs place err) (hr : Reads w rv' rs') (ho : ∀ k, rv'.ownBlock = some k → rv.ownBlock = some k) (he : err ≠ 0 → rs' = []) (size : Nat) :
    Rd ((w.setCell ⟨b, 0, none⟩ rv').setCell ⟨b, 1, none⟩ (.int .i64 ((place : Int) + (size : Int)))) b D rv' rs' (place + size) err ∧ Only b w ((w.setCell ⟨b, 0, none⟩ rv').setCell ⟨b, 1, none⟩ (.int .i64 ((place : Int) + (size : Int)))) := by
  have O : Only b w ((w.setCell ⟨b, 0, none⟩ rv').setCell ⟨b, 1, none⟩ (.int .i64 ((place : Int) + (size : Int)))) := (Only.setCell w 0 _).trans (Only.setCell _ 1 _)
  refine ⟨⟨?_, ?_, fun k hk => h.own k (ho k hk), h.apart, he, fun k hk => Nat.lt_of_lt_of_le (h.old k hk) O.size⟩, O⟩
  · rw [heap_setCell_same (heap_setCell_same h.box _)]; rfl
  · exact hr.only O (fun e => h.apart (h.own b (ho b e)))

set_option maxHeartbeats 1600000 in
set_option maxRecDepth 1000000 in
theorem end_good {w : World} {b t : Nat} {D : Option Nat} {rv rvt : Value} {rs : List UInt8} {place : Nat} {err : Int} {size : Nat} (u : FrameMode) (h : Rd w b D rv rs place err) (hI : Item w t rvt (size : Int) 0) (htb : t ≠ b) (hs : size ≤ rs.length) (hp : place + rs.length ≤ 140737488355328) :
    CallsD Tryz.prog 137 #[.pointer (some ⟨b, 0, none⟩), .pointer (some ⟨t, 0, none⟩)] u w fun e u' w' => u' = u ∧ (e = .returned (.tuple #[]) ∧ (∃ rv', Rd w' b D rv' (rs.drop size) (place + size) err) ∧ Only b w w') := by
  obtain ⟨ao, c, hf⟩ := h.reads.form
  subst hf
  have hlc : rs.length ≤ c := by
    obtain ⟨_, _, e, hc, _⟩ := h.reads
    simp only [Value.slice.injEq] at e
    omega
  have c2 : w.cell? ⟨t, 2, none⟩ = some (.int .i64 0) := by rw [cell_at hI]; rfl
  have c1 : w.cell? ⟨t, 1, none⟩ = some (.int .i64 (size : Int)) := by rw [cell_at hI]; rfl
  have d0 : w.cell? ⟨b, 0, none⟩ = some (.slice ao rs.length c) := by rw [cell_at h.box]; rfl
  have d1 : w.cell? ⟨b, 1, none⟩ = some (.int .i64 (place : Int)) := by rw [cell_at h.box]; rfl
  have f0 := free_at h.box 0
  have f1 := free_at h.box 1
  have HH : Hid _ := h
  have RC : Hid _ := h.reads.cut hs
  have hbr : err ≠ 0 → rs.drop size = [] := fun e => by rw [h.broken e]; simp
  clear h hI
  by_cases hcs : c = size
  · subst hcs
    have e0 : rs.length - c = 0 := by omega
    have R : Hid _ := end_after (rv' := .slice ao 0 0) HH.out (by simpa [e0] using RC.out.1) (by simpa [e0] using RC.out.2) hbr c
    clear e0
    clear hbr
    go_enter_d Tryz.func137, Tryz.ntmps137
    go_wp2
    go_region
    go_wp2
    go_region
    go_wp2
    go_end0
    exact ⟨rfl, ⟨_, R.out.1.drew.drew⟩, (R.out.2.trans (Only.drew _ _)).trans (Only.drew _ _)⟩
  · have R : Hid _ := end_after HH.out (by simpa [hcs] using RC.out.1) (by simpa [hcs] using RC.out.2) hbr size
    clear hbr
    go_enter_d Tryz.func137, Tryz.ntmps137
    go_wp2
    go_region
    go_wp2
    go_region
    go_wp2
    go_end0
    exact ⟨rfl, ⟨_, R.out.1.drew.drew⟩, (R.out.2.trans (Only.drew _ _)).trans (Only.drew _ _)⟩
end Go.Proofs.YthoppemjfdnibaaGreatDoor

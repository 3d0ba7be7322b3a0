import Derived.Test.YtkcepkehgkkkbaaGreatDoorReader
namespace Go.Proofs.YtkcepkehgkkkbaaGreatDoor
open Go.RowKit
set_option linter.unusedVariables false

theorem Reads.cut {w : World} {ao : Option Addr} {c size : Nat} {rs : List UInt8} (h : Reads w (.slice ao rs.length c) rs) (hs : size ≤ rs.length) :
    Reads w (.slice (if c = size then ao else ao.map (·.add size)) (rs.length - size) (c - size)) (rs.drop size) ∧ ∀ k, Value.ownBlock (.slice (if c = size then ao else ao.map (·.add size)) (rs.length - size) (c - size)) = some k → Value.ownBlock (.slice ao rs.length c) = some k := by
  obtain ⟨ao', c', e, hc, hcase⟩ := h
  simp only [Value.slice.injEq] at e
  obtain ⟨rfl, _, rfl⟩ := e
  have hl : rs.length - size = (rs.drop size).length := by simp
  rw [hl]
  rcases hcase with ⟨rfl, rfl, rfl⟩ | ⟨g, o, rfl, hg, hcell⟩
  · have : size = 0 := by simpa using hs
    subst this
    exact ⟨⟨none, 0, by simp, by simp, Or.inl ⟨rfl, by simp, rfl⟩⟩, fun k hk => by simpa using hk⟩
  · by_cases hcs : c = size
    · rw [if_pos hcs]
      refine ⟨⟨_, _, rfl, by simp; omega, Or.inr ⟨g, o, rfl, hg, fun j u hu => ?_⟩⟩, fun k hk => by simpa [Value.ownBlock] using hk⟩
      have : rs.drop size = [] := List.drop_eq_nil_of_le (by omega)
      rw [this] at hu
      simp [cellsB] at hu
    · rw [if_neg hcs]
      refine ⟨⟨_, _, rfl, by simp; omega, Or.inr ⟨g, o + size, by simp [Addr.add_lit], hg, fun j u hu => ?_⟩⟩, fun k hk => by simpa [Value.ownBlock, Addr.add_lit] using hk⟩
      have := hcell (size + j) u (by rw [← hu]; simp [cellsB])
      rw [Nat.add_assoc]
      exact this

set_option maxHeartbeats 1600000 in
set_option maxRecDepth 1000000 in
theorem end_bad {w : World} {b t : Nat} {D : Option Nat} {rv rvt : Value} {rs : List UInt8} {place : Nat} {err size e0 : Int} (u : FrameMode) (h : Rd w b D rv rs place err) (hI : Item w t rvt size e0) (he : e0 ≠ 0) :
    CallsD Tryz.prog 50 #[.pointer (some ⟨b, 0, none⟩), .pointer (some ⟨t, 0, none⟩)] u w fun e u' w' => u' = u ∧ (e = .returned (.tuple #[]) ∧ (∃ rv', Rd w' b D rv' [] place (keepE err e0)) ∧ Only b w w') := by
  have c2 : w.cell? ⟨t, 2, none⟩ = some (.int .i64 e0) := by rw [cell_at hI]; rfl
  have hb : (e0 != 0) = true := by simpa using he
  have HH : Hid _ := h
  clear h hI
  go_enter_d Tryz.func50, Tryz.ntmps50
  go_wp2_with fail
  refine (rfail_any HH.out e0 he).mono ?_
  rintro e w1 ⟨rfl, h1, h2⟩
  have H1 : Hid _ := h1
  have H2 : Hid _ := h2
  clear h1 h2
  go_wp2
  refine bodyPost_ret (results_none rfl _ _ _) rfl ?_
  exact ⟨rfl, H1.out, H2.out⟩

theorem Rd.drew {w : World} {b : Nat} {D : Option Nat} {rv : Value} {rs : List UInt8} {place : Nat} {err : Int} (h : Rd w b D rv rs place err) : Rd w.drew b D rv rs place err := h.kept (Nat.le_refl _) rfl (fun _ _ => rfl)

theorem end_after {w : World} {b : Nat} {D : Option Nat} {rv rv' : Value} {rs rs' : List UInt8} {place : Nat} {err : Int} (h : Rd w b D rv rs place err) (hr : Reads w rv' rs') (ho : ∀ k, rv'.ownBlock = some k → rv.ownBlock = some k) (he : err ≠ 0 → rs' = []) (size : Nat) :
    Rd ((w.setCell ⟨b, 0, none⟩ rv').setCell ⟨b, 1, none⟩ (.int .i64 ((place : Int) + (size : Int)))) b D rv' rs' (place + size) err ∧ Only b w ((w.setCell ⟨b, 0, none⟩ rv').setCell ⟨b, 1, none⟩ (.int .i64 ((place : Int) + (size : Int)))) := by
  have O : Only b w ((w.setCell ⟨b, 0, none⟩ rv').setCell ⟨b, 1, none⟩ (.int .i64 ((place : Int) + (size : Int)))) := (Only.setCell w 0 _).trans (Only.setCell _ 1 _)
  refine ⟨⟨?_, ?_, fun k hk => h.own k (ho k hk), h.apart, he, fun k hk => Nat.lt_of_lt_of_le (h.old k hk) O.size⟩, O⟩
  · rw [heap_setCell_same (heap_setCell_same h.box _)]; rfl
  · exact hr.only O (fun e => h.apart (h.own b (ho b e)))

set_option maxHeartbeats 1600000 in
set_option maxRecDepth 1000000 in
theorem end_good {w : World} {b t : Nat} {D : Option Nat} {rv rvt : Value} {rs : List UInt8} {place : Nat} {err : Int} {size : Nat} (u : FrameMode) (h : Rd w b D rv rs place err) (hI : Item w t rvt (size : Int) 0) (htb : t ≠ b) (hs : size ≤ rs.length) (hp : place + rs.length ≤ 140737488355328) :
    CallsD Tryz.prog 50 #[.pointer (some ⟨b, 0, none⟩), .pointer (some ⟨t, 0, none⟩)] u w fun e u' w' => u' = u ∧ (e = .returned (.tuple #[]) ∧ (∃ rv', Rd w' b D rv' (rs.drop size) (place + size) err) ∧ Only b w w') := by
  obtain ⟨ao, c, hf⟩ := h.reads.form
  subst hf
  have hlc : rs.length ≤ c := by
    obtain ⟨_, _, e, hc, _⟩ := h.reads
    simp only [Value.slice.injEq] at e
    omega
  have c2 : w.cell? ⟨t, 2, none⟩ = some (.int .i64 0) := by rw [cell_at hI]; rfl
  have c1 : w.cell? ⟨t, 1, none⟩ = some (.int .i64 (size : Int)) := by rw [cell_at hI]; rfl
  have d0 : w.cell? ⟨b, 0, none⟩ = some (.slice ao rs.length c) := by rw [cell_at h.box]; rfl
  have d1 : w.cell? ⟨b, 1, none⟩ = some (.int .i64 (place : Int)) := by rw [cell_at h.box]; rfl
  have f0 := free_at h.box 0
  have f1 := free_at h.box 1
  have HH : Hid _ := h
  have RC : Hid _ := h.reads.cut hs
  have hbr : err ≠ 0 → rs.drop size = [] := fun e => by rw [h.broken e]; simp
  clear h hI
  by_cases hcs : c = size
  · subst hcs
    have e0 : rs.length - c = 0 := by omega
    have R : Hid _ := end_after (rv' := .slice ao 0 0) HH.out (by simpa [e0] using RC.out.1) (by simpa [e0] using RC.out.2) hbr c
    clear e0
    clear hbr
    go_enter_d Tryz.func50, Tryz.ntmps50
    go_wp2
    go_region
    go_wp2
    go_region
    go_wp2
    go_end0
    exact ⟨rfl, ⟨_, R.out.1.drew.drew⟩, (R.out.2.trans (Only.drew _ _)).trans (Only.drew _ _)⟩
  · have R : Hid _ := end_after HH.out (by simpa [hcs] using RC.out.1) (by simpa [hcs] using RC.out.2) hbr size
    clear hbr
    go_enter_d Tryz.func50, Tryz.ntmps50
    go_wp2
    go_region
    go_wp2
    go_region
    go_wp2
    go_end0
    exact ⟨rfl, ⟨_, R.out.1.drew.drew⟩, (R.out.2.trans (Only.drew _ _)).trans (Only.drew _ _)⟩
end Go.Proofs.YtkcepkehgkkkbaaGreatDoor

namespace Go.Proofs.YtkcepkehgkkkbaaGreatDoor
open Go.RowKit
set_option linter.unusedVariables false

/-- The call that is deferred, whatever came of the item. -/
theorem end_any {w : World} {b t : Nat} {D : Option Nat} {rv rvt : Value} {rs : List UInt8} {place : Nat} {err e0 : Int} {size : Nat} (u : FrameMode) (h : Rd w b D rv rs place err) (hI : Item w t rvt (size : Int) e0) (htb : t ≠ b) (hs : e0 = 0 → size ≤ rs.length) (hp : place + rs.length ≤ 140737488355328) :
    CallsD Tryz.prog 50 #[.pointer (some ⟨b, 0, none⟩), .pointer (some ⟨t, 0, none⟩)] u w fun e u' w' => u' = u ∧ (e = .returned (.tuple #[]) ∧ (∃ rv', Rd w' b D rv' (aft rs place err size e0).1 (aft rs place err size e0).2.1 (aft rs place err size e0).2.2) ∧ Only b w w') := by
  by_cases he : e0 = 0
  · subst he
    have : aft rs place err size 0 = (rs.drop size, place + size, err) := by simp [aft]
    rw [this]
    exact end_good u h hI htb (hs rfl) hp
  · have : aft rs place err size e0 = ([], place, keepE err e0) := by simp [aft, he]
    rw [this]
    exact end_bad u h hI he

theorem Rd.only {w w' : World} {b t : Nat} {D : Option Nat} {rv : Value} {rs : List UInt8} {place : Nat} {err : Int} (h : Rd w b D rv rs place err) (hw : Only t w w') (htb : t ≠ b) (ht : rv.ownBlock ≠ some t) : Rd w' b D rv rs place err :=
  h.kept hw.size (hw.block b h.lt (fun e => htb e.symm)) (fun k hk => hw.block k (h.reads.block k hk) (fun e => ht (by rw [hk, e])))

theorem Rd.below {w w' : World} {b : Nat} {D : Option Nat} {rv : Value} {rs : List UInt8} {place : Nat} {err : Int} (h : Rd w b D rv rs place err) (hw : Below w.heap.size w w') : Rd w' b D rv rs place err :=
  h.kept hw.size (hw.block b h.lt) (fun k hk => hw.block k (h.reads.block k hk))

set_option maxHeartbeats 1600000 in
set_option maxRecDepth 1000000 in
theorem num_item {w : World} {t : Nat} {rv : Value} {rs : List UInt8} (hI : Item w t rv 0 0) (hr : Reads w rv rs) (most above : Int) (hab : above ≠ 0) (hlen : rs.length ≤ 140737488355328) :
    Calls Tryz.prog 51 #[.pointer (some ⟨t, 0, none⟩), .int .i64 most, .int .i64 above] w fun e w' => e = .returned (.int .i64 (numR rs most above).1) ∧ Item w' t rv ((numR rs most above).2.1 : Int) (numR rs most above).2.2 ∧ Only t w w' := by
  have HI : Hid _ := hI
  have HR : Hid _ := hr
  have LB := look_bound 9 127 (by omega) (by omega) (by omega) rs 0 0 (by omega) (by simp)
  have e0 := numR_eq rs most above
  have HG : Hid _ := groups_item hI hr 9 127 9 127 rfl rfl (by omega) (by omega) (by omega) (by omega) hlen
  clear hI hr
  generalize look 9 127 0 rs 0 = lk at LB e0 HG
  obtain ⟨n, sz, er⟩ := lk
  simp only at LB e0 HG
  obtain ⟨_, hn, _, hz, her, _⟩ := LB
  have hn' := hn (by omega)
  clear hn
  have HE : Hid _ := e0
  have HZ : Hid _ := hz
  clear e0 hz
  go_enter Tryz.func51, Tryz.ntmps51
  go_wp2_with fail
  refine Calls.mono HG.out ?_
  rintro e w1 ⟨rfl, h1, h2⟩
  have H1 : Hid _ := h1
  have H2 : Hid _ := h2
  have c1 : w1.cell? ⟨t, 1, none⟩ = some (.int .i64 (sz : Int)) := by rw [cell_at h1]; rfl
  have c2 : w1.cell? ⟨t, 2, none⟩ = some (.int .i64 (er : Int)) := by rw [cell_at h1]; rfl
  have f2 := free_at h1 2
  clear h1 h2
  by_cases hz : er = 0
  · subst hz
    by_cases hm : most < (n : Int)
    · have F : Hid (numR rs most above = (0, sz, above)) := by rw [HE.out]; simp [hm, Hid]
      have hb : (above != 0) = true := by simpa using hab
      go_wp2
      go_ret
      rw [F.out]
      exact ⟨rfl, (item_err H1.out above).1, H2.out.trans (item_err H1.out above).2⟩
    · have F : Hid (numR rs most above = ((n : Int), sz, 0)) := by rw [HE.out]; simp [hm, Hid]
      go_wp2
      go_ret
      rw [F.out]
      exact ⟨rfl, H1.out, H2.out⟩
  · have F : Hid (numR rs most above = (0, sz, (er : Int))) := by rw [HE.out]; simp [hz, Hid]
    have hb : ((er : Int) == 0) = false := by simp; omega
    have hb' : ((er : Int) != 0) = true := by simp; omega
    clear hz
    go_wp2
    go_ret
    rw [F.out]
    exact ⟨rfl, H1.out, H2.out⟩

set_option maxHeartbeats 1600000 in
set_option maxRecDepth 1000000 in
theorem Num_any {w : World} {b : Nat} {D : Option Nat} {rv : Value} {rs : List UInt8} {place : Nat} {err : Int} (h : Rd w b D rv rs place err) (hp : place + rs.length ≤ 140737488355328) (most : Int) :
    Calls Tryz.prog 10 #[.pointer (some ⟨b, 0, none⟩), .int .i64 most] w fun e w' => e = .returned (.int .i64 (numR rs most 13).1) ∧ (∃ rv', Rd w' b D rv' (aft rs place err (numR rs most 13).2.1 (numR rs most 13).2.2).1 (aft rs place err (numR rs most 13).2.1 (numR rs most 13).2.2).2.1 (aft rs place err (numR rs most 13).2.1 (numR rs most 13).2.2).2.2) ∧ Only b w w' := by
  have HH : Hid _ := h
  have hlt := h.lt
  clear h
  go_enter_defers Tryz.func10, Tryz.ntmps10
  go_wp2_with fail
  refine (begin_any HH.out).mono ?_
  rintro e w1 ⟨rfl, h1, h2, h3⟩
  have H1 : Hid _ := h1
  have H2 : Hid _ := h2
  clear h1 h2
  go_wp2_with fail
  refine (num_item H1.out (HH.out.below H2.out).reads most 13 (by omega) (by omega)).mono ?_
  rintro e w2 ⟨rfl, h1, h4⟩
  have H3 : Hid _ := h1
  have H4 : Hid _ := h4
  clear h1 h4
  go_wp2
  refine leaves_cons (f := 50) (args := #[.pointer (some ⟨b, 0, none⟩), .pointer (some ⟨w.heap.size, 0, none⟩)]) (by simp) (by simp [go_sem]) ?_
  have hne : rv.ownBlock ≠ some w.heap.size := fun e => by have := HH.out.reads.block _ e; omega
  refine (end_any .returning ((HH.out.below H2.out).only H4.out (by omega) hne) H3.out (by omega) (fun _ => numR_size _ _ _) hp).mono ?_
  rintro e u' w3 ⟨rfl, rfl, h5, h6⟩
  refine ⟨_, results_tmp rfl _ _ _, rfl, h5, ?_⟩
  exact (Only.below (Only.after H2.out H4.out (Nat.le_refl _))).trans h6
end Go.Proofs.YtkcepkehgkkkbaaGreatDoor

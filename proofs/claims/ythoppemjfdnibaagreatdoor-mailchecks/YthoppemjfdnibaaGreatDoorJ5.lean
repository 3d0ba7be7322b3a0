import Derived.Test.YthoppemjfdnibaaGreatDoorJ4
namespace Go.Proofs.YthoppemjfdnibaaGreatDoor
open Go.RowKit
set_option linter.unusedVariables false

/-- The call that is deferred, whatever came of the item. -/
theorem end_any {w : World} {b t : Nat} {D : Option Nat} {rv rvt : Value} {rs : List UInt8} {place : Nat} {err e0 : Int} {size : Nat} (u : FrameMode) (h : Rd w b D rv rs place err) (hI : Item w t rvt (size : Int) e0) (htb : t ≠ b) (hs : e0 = 0 → size ≤ rs.length) (hp : place + rs.length ≤ 140737488355328) :
    CallsD Tryz.prog 137 #[.pointer (some ⟨b, 0, none⟩), .pointer (some ⟨t, 0, none⟩)] u w fun e u' w' => u' = u ∧ (e = .returned (.tuple #[]) ∧ (∃ rv', Rd w' b D rv' (aft rs place err size e0).1 (aft rs place err size e0).2.1 (aft rs place err size e0).2.2) ∧ Only b w w') := by
  by_cases he : e0 = 0
  · subst he
    have : aft rs place err size 0 = (rs.drop size, place + size, err) := by simp [aft]
    rw [this]
    exact end_good u h hI htb (hs rfl) hp
  · have : aft rs place err size e0 = ([], place, keepE err e0) := by simp [aft, he]
    rw [this]
    exact end_bad u h hI he

theorem Rd.only {w w' : World} {b t : Nat} {D : Option Nat} {rv : Value} {rs : List UInt8} {place : Nat} {err : Int} (h : Rd w b D rv rs place err) (hw : Only t w w') (htb : t ≠ b) (ht : rv.ownBlock ≠ some t) : Rd w' b D rv rs place err :=
  h.kept hw.size (hw.block b h.lt (fun e => htb e.symm)) (fun k hk => hw.block k (h.reads.block k hk) (fun e => ht (by rw [hk, e])))

theorem Rd.below {w w' : World} {b : Nat} {D : Option Nat} {rv : Value} {rs : List UInt8} {place : Nat} {err : Int} (h : Rd w b D rv rs place err) (hw : Below w.heap.size w w') : Rd w' b D rv rs place err :=
  h.kept hw.size (hw.block b h.lt) (fun k hk => hw.block k (h.reads.block k hk))

set_option maxHeartbeats 1600000 in
set_option maxRecDepth 1000000 in
theorem num_item {w : World} {t : Nat} {rv : Value} {rs : List UInt8} (hI : Item w t rv 0 0) (hr : Reads w rv rs) (most above : Int) (hab : above ≠ 0) (hlen : rs.length ≤ 140737488355328) :
    Calls Tryz.prog 138 #[.pointer (some ⟨t, 0, none⟩), .int .i64 most, .int .i64 above] w fun e w' => e = .returned (.int .i64 (numR rs most above).1) ∧ Item w' t rv ((numR rs most above).2.1 : Int) (numR rs most above).2.2 ∧ Only t w w' := by
  have HI : Hid _ := hI
  have HR : Hid _ := hr
  have LB := look_bound 9 127 (by omega) (by omega) (by omega) rs 0 0 (by omega) (by simp)
  have e0 := numR_eq rs most above
  have HG : Hid _ := groups_item hI hr 9 127 9 127 rfl rfl (by omega) (by omega) (by omega) (by omega) hlen
  clear hI hr
  generalize look 9 127 0 rs 0 = lk at LB e0 HG
  obtain ⟨n, sz, er⟩ := lk
  simp only at LB e0 HG
  obtain ⟨_, hn, _, hz, her, _⟩ := LB
  have hn' := hn (by omega)
  clear hn
  have HE : Hid _ := e0
  have HZ : Hid _ := hz
  clear e0 hz
  go_enter Tryz.func138, Tryz.ntmps138
  go_wp2_with fail
  refine Calls.mono HG.out ?_
  rintro e w1 ⟨rfl, h1, h2⟩
  have H1 : Hid _ := h1
  have H2 : Hid _ := h2
  have c1 : w1.cell? ⟨t, 1, none⟩ = some (.int .i64 (sz : Int)) := by rw [cell_at h1]; rfl
  have c2 : w1.cell? ⟨t, 2, none⟩ = some (.int .i64 (er : Int)) := by rw [cell_at h1]; rfl
  have f2 := free_at h1 2
  clear h1 h2
  by_cases hz : er = 0
  · subst hz
    by_cases hm : most < (n : Int)
    · have F : Hid (numR rs most above = (0, sz, above)) := by rw [HE.out]; simp [hm, Hid]
      have hb : (above != 0) = true := by simpa using hab
      go_wp2
      go_ret
      rw [F.out]
      exact ⟨rfl, (item_err H1.out above).1, H2.out.trans (item_err H1.out above).2⟩
    · have F : Hid (numR rs most above = ((n : Int), sz, 0)) := by rw [HE.out]; simp [hm, Hid]
      go_wp2
      go_ret
      rw [F.out]
      exact ⟨rfl, H1.out, H2.out⟩
  · have F : Hid (numR rs most above = (0, sz, (er : Int))) := by rw [HE.out]; simp [hz, Hid]
    have hb : ((er : Int) == 0) = false := by simp; omega
    have hb' : ((er : Int) != 0) = true := by simp; omega
    clear hz
    go_wp2
    go_ret
    rw [F.out]
    exact ⟨rfl, H1.out, H2.out⟩

set_option maxHeartbeats 1600000 in
set_option maxRecDepth 1000000 in
theorem Num_any {w : World} {b : Nat} {D : Option Nat} {rv : Value} {rs : List UInt8} {place : Nat} {err : Int} (h : Rd w b D rv rs place err) (hp : place + rs.length ≤ 140737488355328) (most : Int) :
    Calls Tryz.prog 91 #[.pointer (some ⟨b, 0, none⟩), .int .i64 most] w fun e w' => e = .returned (.int .i64 (numR rs most 13).1) ∧ (∃ rv', Rd w' b D rv' (aft rs place err (numR rs most 13).2.1 (numR rs most 13).2.2).1 (aft rs place err (numR rs most 13).2.1 (numR rs most 13).2.2).2.1 (aft rs place err (numR rs most 13).2.1 (numR rs most 13).2.2).2.2) ∧ Only b w w' := by
  have HH : Hid _ := h
  have hlt := h.lt
  clear h
  go_enter_defers Tryz.func91, Tryz.ntmps91
  go_wp2_with fail
  refine (begin_any HH.out).mono ?_
  rintro e w1 ⟨rfl, h1, h2, h3⟩
  have H1 : Hid _ := h1
  have H2 : Hid _ := h2
  clear h1 h2
  go_wp2_with fail
  refine (num_item H1.out (HH.out.below H2.out).reads most 13 (by omega) (by omega)).mono ?_
  rintro e w2 ⟨rfl, h1, h4⟩
  have H3 : Hid _ := h1
  have H4 : Hid _ := h4
  clear h1 h4
  go_wp2
  refine leaves_cons (f := 137) (args := #[.pointer (some ⟨b, 0, none⟩), .pointer (some ⟨w.heap.size, 0, none⟩)]) (by simp) (by simp [go_sem]) ?_
  have hne : rv.ownBlock ≠ some w.heap.size := fun e => by have := HH.out.reads.block _ e; omega
  refine (end_any .returning ((HH.out.below H2.out).only H4.out (by omega) hne) H3.out (by omega) (fun _ => numR_size _ _ _) hp).mono ?_
  rintro e u' w3 ⟨rfl, rfl, h5, h6⟩
  refine ⟨_, results_tmp rfl _ _ _, rfl, h5, ?_⟩
  exact (Only.below (Only.after H2.out H4.out (Nat.le_refl _))).trans h6
end Go.Proofs.YthoppemjfdnibaaGreatDoor

namespace Go.Proofs.YthoppemjfdnibaaGreatDoor
open Go.RowKit
set_option linter.unusedVariables false

theorem unfold_odd (n : Nat) (hn : n < 18446744073709551616) (h0 : n % 2 = 1) : wrap64 (bits BinOp.xor IntKind.u64 IntKind.u64.max ((n : Int) / 2)) = unfoldN n := by
  have e0 : IntKind.u64.max = 18446744073709551615 := by decide
  rw [e0, u64_xor _ _ (by omega) (by omega) (by omega) (by omega)]
  have e1 : (18446744073709551615 : Int).toNat = 2 ^ 64 - 1 := by decide
  have e2 : ((n : Int) / 2).toNat < 2 ^ 64 := by omega
  rw [e1, xor_ones _ e2]
  unfold unfoldN wrap64
  rw [if_pos h0]
  omega

/-- What Signed reads. -/
def signedR (rs : List UInt8) : Int × Nat × Int := (unfoldN (look 10 1 0 rs 0).1, (look 10 1 0 rs 0).2.1, (look 10 1 0 rs 0).2.2)

theorem signedR_size (rs : List UInt8) : (signedR rs).2.1 ≤ rs.length := by
  have h := (look_bound 10 1 (by omega) (by omega) (by omega) rs 0 0 (by omega) (by simp)).2.2.1
  unfold signedR
  simp only
  omega

set_option maxHeartbeats 800000 in
set_option maxRecDepth 1000000 in
theorem Err_any {w : World} {b : Nat} {D : Option Nat} {rv : Value} {rs : List UInt8} {place : Nat} {err : Int} (h : Rd w b D rv rs place err) :
    Calls Tryz.prog 174 #[.pointer (some ⟨b, 0, none⟩)] w fun e w' => e = .returned (.tuple #[.int .i64 err, .int .i64 (place : Int)]) ∧ Below w.heap.size w w' := by
  have c1 : w.cell? ⟨b, 1, none⟩ = some (.int .i64 (place : Int)) := by rw [cell_at h.box]; rfl
  have c2 : w.cell? ⟨b, 2, none⟩ = some (.int .i64 err) := by rw [cell_at h.box]; rfl
  clear h
  go_enter Tryz.func174, Tryz.ntmps174
  go_wp2
  go_region
  go_wp2
  go_ret2
  exact ⟨rfl, (Below.refl _ _).drew⟩

set_option maxHeartbeats 800000 in
set_option maxRecDepth 1000000 in
theorem NewWriter_any (w : World) :
    Calls Tryz.prog 41 #[] w fun e w' => e = .returned (.pointer (some ⟨w.heap.size, 0, none⟩)) ∧ Wst w' w.heap.size (.slice none 0 0) (some []) ∧ Below w.heap.size w w' := by
  go_enter Tryz.func41, Tryz.ntmps41
  go_wp2
  go_ret
  exact ⟨rfl, ⟨alloc_new_at _ _, World.ownsRow_nil _ _ _ _⟩, (Below.refl _ _).alloc (Nat.le_refl _) _⟩

set_option maxHeartbeats 800000 in
set_option maxRecDepth 1000000 in
theorem NewReader_any {w : World} {s : Value} {l : List UInt8} (h : Reads w s l) (hlen : l.length ≤ 140737488355328) :
    Calls Tryz.prog 62 #[s] w fun e w' => ∃ b D rv, e = .returned (.pointer (some ⟨b, 0, none⟩)) ∧ Rd w' b D rv l 0 0 ∧ Below w.heap.size w w' ∧ w.heap.size ≤ b ∧ ∀ k, D = some k → w.heap.size ≤ k ∧ k < w'.heap.size := by
  have HH : Hid _ := h
  obtain ⟨ao, c, hf⟩ := h.form
  subst hf
  clear h
  go_enter Tryz.func62, Tryz.ntmps62
  go_wp2_with fail
  refine (clone_any HH.out hlen).mono ?_
  rintro e w1 ⟨s', rfl, h1, h2⟩
  obtain ⟨ao', c', hf⟩ := owns_form h1
  subst hf
  have H1 : Hid _ := h1
  have H2 : Hid _ := h2
  clear h1 h2
  go_wp2
  go_ret
  refine ⟨w1.heap.size, (Value.slice ao' l.length c').ownBlock, _, rfl, ⟨alloc_new_at _ _, (Reads.of_owns H1.out).below ((Below.refl _ _).alloc (Nat.le_refl _) _), fun k hk => hk, ?_, fun e => absurd rfl e, fun k hk => by have := (World.ownsRow.lt H1.out k hk).2; simp; omega⟩, H2.out.alloc H2.out.size _, H2.out.size, ?_⟩
  · intro e
    have := (World.ownsRow.lt H1.out _ e).2
    omega
  · intro k hk
    have := World.ownsRow.lt H1.out k hk
    simp
    omega

end Go.Proofs.YthoppemjfdnibaaGreatDoor

import Derived.Test.YtkcepkehgkkkbabGreatDoorJ34
import Derived.Laws.BytesString
namespace Go.Proofs.YtkcepkehgkkkbabGreatDoor
open Go.RowKit
set_option linter.unusedVariables false

set_option maxHeartbeats 800000 in
set_option maxRecDepth 1000000 in
theorem NewReader_any {w : World} {s : Value} {l : List UInt8} (h : Reads w s l) (hlen : l.length ≤ 140737488355328) :
    Calls Tryz.prog 45 #[s] w fun e w' => ∃ b D rv, e = .returned (.pointer (some ⟨b, 0, none⟩)) ∧ Rd w' b D rv l 0 0 ∧ Below w.heap.size w w' ∧ w.heap.size ≤ b ∧ ∀ k, D = some k → w.heap.size ≤ k ∧ k < w'.heap.size := by
  have HH : Hid _ := h
  obtain ⟨ao, c, hf⟩ := h.form
  subst hf
  clear h
  go_enter Tryz.func45, Tryz.ntmps45
  go_wp2_with fail
  refine (clone_any HH.out hlen).mono ?_
  rintro e w1 ⟨s', rfl, h1, h2⟩
  obtain ⟨ao', c', hf⟩ := owns_form h1
  subst hf
  have H1 : Hid _ := h1
  have H2 : Hid _ := h2
  clear h1 h2
  go_wp2
  go_ret
  refine ⟨w1.heap.size, (Value.slice ao' l.length c').ownBlock, _, rfl, ⟨alloc_new_at _ _, (Reads.of_owns H1.out).below ((Below.refl _ _).alloc (Nat.le_refl _) _), fun k hk => hk, ?_, fun e => absurd rfl e, fun k hk => by have := (World.ownsRow.lt H1.out k hk).2; simp; omega⟩, H2.out.alloc H2.out.size _, H2.out.size, ?_⟩
  · intro e
    have := (World.ownsRow.lt H1.out _ e).2
    omega
  · intro k hk
    have := World.ownsRow.lt H1.out k hk
    simp
    omega

end Go.Proofs.YtkcepkehgkkkbabGreatDoor

namespace Go.Proofs.YtkcepkehgkkkbabGreatDoor
open Go.RowKit
set_option linter.unusedVariables false

set_option maxHeartbeats 3200000 in
set_option maxRecDepth 1000000 in
theorem run_item {w : World} {t : Nat} {rv : Value} {rs : List UInt8} (hI : Item w t rv 0 0) (hr : Reads w rv rs) (hne : rv.ownBlock ≠ some t) (most : Int) (hlen : rs.length ≤ 140737488355328) :
    Calls Tryz.prog 88 #[.pointer (some ⟨t, 0, none⟩), .int .i64 most] w fun e w' => ∃ s, e = .returned s ∧ Reads w' s (runR rs most).1 ∧ (∀ k, s.ownBlock = some k → rv.ownBlock = some k) ∧ Item w' t rv ((runR rs most).2.1 : Int) (runR rs most).2.2 ∧ Only t w w' := by
  have HI := hid (hI)
  have HR := hid (hr)
  have HN := hid (hne)
  have e0 := runR_eq rs most
  have hs := numR_size rs most 14
  have hv := numR_val rs most 14
  have HG := hid (num_item hI hr most 14 (by omega) hlen)
  have hnil := numR_nil rs most
  obtain ⟨ao, c, hf, hc, hcase⟩ := hr
  subst hf
  clear hI hne
  generalize numR rs most 14 = r at e0 hs hv HG hnil
  obtain ⟨n, sz, er⟩ := r
  simp only at e0 hs hv HG hnil
  have HNil := hid hnil
  clear hnil
  obtain ⟨hn0, hn1, hnz⟩ := hv
  obtain ⟨m, rfl⟩ := Int.eq_ofNat_of_zero_le hn0
  have HE := hid (e0)
  have HZ := hid (hnz)
  have HC := hid (hcase)
  clear e0 hnz hcase
  go_enter Tryz.func88, Tryz.ntmps88
  go_wp2_with fail
  refine Calls.mono HG.out ?_
  rintro e w1 ⟨rfl, h1, h2⟩
  have H1 := hid (h1)
  have H2 := hid (h2)
  have HR1 := hid (HR.out.only h2 HN.out)
  have c0 : w1.cell? ⟨t, 0, none⟩ = some (.slice ao rs.length c) := by rw [cell_at h1]; rfl
  have c1 : w1.cell? ⟨t, 1, none⟩ = some (.int .i64 (sz : Int)) := by rw [cell_at h1]; rfl
  have c2 : w1.cell? ⟨t, 2, none⟩ = some (.int .i64 er) := by rw [cell_at h1]; rfl
  have f1 := free_at h1 1
  have f2 := free_at h1 2
  clear h1 h2
  clear hn0 hn1
  by_cases hz : er = 0
  · subst hz
    rcases HC.out with ⟨rfl, rfl, rfl⟩ | ⟨g, o, rfl, -, -⟩
    · exact absurd rfl (HNil.out rfl)
    · by_cases hgt : rs.length - sz < m
      · have F : Hid (runR rs most = ([], sz, 10)) := by rw [HE.out]; simp [hgt, Hid]
        have R := hid (item_err H1.out 10)
        by_cases hcs : c = sz
        · subst hcs
          have hl0 : rs.length - c = 0 := by omega
          have hm0 : 0 < m := by omega
          clear hgt hl0
          go_wp2
          go_region
          go_wp2
          go_ret
          rw [F.out]
          exact ⟨_, rfl, Reads.nil _, fun k hk => by simp [Value.ownBlock] at hk, R.out.1, (H2.out.trans R.out.2).trans (Only.drew _ _)⟩
        · go_wp2
          go_region
          have q1 : rs.length - sz < m := hgt
          have q3 : rs.length - sz ≤ 140737488355328 := by omega
          generalize hq : rs.length - sz = q at *
          generalize hcq : c - sz = cq at *
          clear hq hcq hc hs hcs hgt
          go_wp2
          go_ret
          rw [F.out]
          exact ⟨_, rfl, Reads.nil _, fun k hk => by simp [Value.ownBlock] at hk, R.out.1, (H2.out.trans R.out.2).trans (Only.drew _ _)⟩
      · have F : Hid (runR rs most = ((rs.drop sz).take m, sz + m, 0)) := by rw [HE.out]; simp [hgt, Hid]
        by_cases hcs : c = sz
        · subst hcs
          have hl0 : rs.length - c = 0 := by omega
          have hm0 : m = 0 := by omega
          subst hm0
          have R := hid (item_size H1.out (c : Int))
          have hg := hid HR1.out.lt
          go_wp2
          go_region
          go_wp2
          go_ret
          rw [F.out]
          exact ⟨_, rfl, (Reads.empty g o 0 (Nat.lt_of_lt_of_le hg.out R.out.2.size)), fun k hk => hk, R.out.1, (H2.out.trans R.out.2).trans (Only.drew _ _)⟩
        · have R := hid (item_size H1.out ((sz : Int) + (m : Int)))
          have RP := hid (HR1.out.part sz m (c - sz) (by omega) (by omega))
          have hm1 : (m : Int) ≤ (rs.length : Int) - (sz : Int) := by omega
          clear hgt
          go_wp2
          go_region
          have q1 : m ≤ rs.length - sz := by omega
          have q2 : rs.length - sz ≤ c - sz := by omega
          have q3 : rs.length - sz ≤ 140737488355328 := by omega
          have q4 : 0 < c - sz := by omega
          have q5 : sz ≤ 140737488355328 := by omega
          generalize hq : rs.length - sz = q at *
          generalize hcq : c - sz = cq at *
          clear hq hcq hm1 hc hs hcs
          have hcut := cut_run g (o + sz) m q cq (by omega) q4
          go_wp2
          go_ret
          rw [F.out]
          exact ⟨_, rfl, (RP.out.only (R.out.2.trans (Only.drew _ _)) HN.out), fun k hk => hk, R.out.1, (H2.out.trans R.out.2).trans (Only.drew _ _)⟩
  · have F : Hid (runR rs most = ([], sz, er)) := by rw [HE.out]; simp [hz, Hid]
    have hb : (er == 0) = false := by simpa using hz
    have hb' : (er != 0) = true := by simpa using hz
    have hm0 : m = 0 := by have := HZ.out hz; omega
    subst hm0
    clear hz
    rcases HC.out with ⟨rfl, rfl, rfl⟩ | ⟨g, o, rfl, -, -⟩
    · have hs0 : sz = 0 := by simpa using hs
      subst hs0
      go_wp2
      go_region
      go_wp2
      go_ret
      rw [F.out]
      exact ⟨_, rfl, Reads.nil _, fun k hk => by simp [Value.ownBlock] at hk, H1.out, H2.out.trans (Only.drew _ _)⟩
    · by_cases hcs : c = sz
      · subst hcs
        go_wp2
        go_region
        go_wp2
        go_ret
        rw [F.out]
        exact ⟨_, rfl, Reads.nil _, fun k hk => by simp [Value.ownBlock] at hk, H1.out, H2.out.trans (Only.drew _ _)⟩
      · go_wp2
        go_region
        generalize hq : rs.length - sz = q at *
        generalize hcq : c - sz = cq at *
        clear hq hcq hc hs hcs
        go_wp2
        go_ret
        rw [F.out]
        exact ⟨_, rfl, Reads.nil _, fun k hk => by simp [Value.ownBlock] at hk, H1.out, H2.out.trans (Only.drew _ _)⟩

end Go.Proofs.YtkcepkehgkkkbabGreatDoor

namespace Go.Proofs.YtkcepkehgkkkbabGreatDoor
open Go.RowKit
set_option linter.unusedVariables false

set_option maxHeartbeats 1600000 in
set_option maxRecDepth 1000000 in
theorem Text_any {w : World} {b : Nat} {D : Option Nat} {rv : Value} {rs : List UInt8} {place : Nat} {err : Int} (h : Rd w b D rv rs place err) (hp : place + rs.length ≤ 140737488355328) (most : Int) :
    Calls Tryz.prog 47 #[.pointer (some ⟨b, 0, none⟩), .int .i64 most] w fun e w' => e = .returned (.string (strB (runR rs most).1)) ∧ (∃ rv', Rd w' b D rv' (aft rs place err (runR rs most).2.1 (runR rs most).2.2).1 (aft rs place err (runR rs most).2.1 (runR rs most).2.2).2.1 (aft rs place err (runR rs most).2.1 (runR rs most).2.2).2.2) ∧ Only b w w' := by
  have HH := hid h
  have hlt := h.lt
  have hrl := (runR_size rs most).2
  clear h
  go_enter_defers Tryz.func47, Tryz.ntmps47
  go_wp2_with fail
  refine (begin_any HH.out).mono ?_
  rintro e w1 ⟨rfl, h1, h2, h3⟩
  have H1 := hid h1
  have H2 := hid h2
  have HN : Hid (rv.ownBlock ≠ some w.heap.size) := fun e => by have := HH.out.reads.block _ e; omega
  clear h1 h2
  go_wp2_with fail
  refine (run_item H1.out (HH.out.below H2.out).reads HN.out most (by omega)).mono ?_
  rintro e w2 ⟨s, rfl, h1, h4, h5, h6⟩
  have hcv := conv_string h1
  have H5 := hid h5
  have H6 := hid h6
  obtain ⟨ao, c, hf⟩ := h1.form
  subst hf
  clear h1 h4 h5 h6
  go_wp2
  refine leaves_cons (f := 87) (args := #[.pointer (some ⟨b, 0, none⟩), .pointer (some ⟨w.heap.size, 0, none⟩)]) (by simp) (by simp [go_sem]) ?_
  refine (end_any .returning ((HH.out.below H2.out).only H6.out (by omega) HN.out) H5.out (by omega) (runR_size _ _).1 hp).mono ?_
  rintro e u' w4 ⟨rfl, rfl, h5, h6⟩
  exact ⟨_, results_tmp rfl _ _ _, rfl, h5, (Only.below (Only.after H2.out H6.out (Nat.le_refl _))).trans h6⟩

end Go.Proofs.YtkcepkehgkkkbabGreatDoor

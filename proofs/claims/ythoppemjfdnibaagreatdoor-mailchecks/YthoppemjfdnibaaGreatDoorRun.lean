import Derived.Test.YthoppemjfdnibaaGreatDoorJ5
namespace Go.Proofs.YthoppemjfdnibaaGreatDoor
open Go.RowKit
set_option linter.unusedVariables false

theorem hid {p : Prop} (h : p) : Hid p := h

/-- What is behind the number, as bytes. -/
theorem Reads.part {w : World} {g o c : Nat} {rs : List UInt8} (h : Reads w (.slice (some ⟨g, o, none⟩) rs.length c) rs) (sz n cap : Nat) (hs : sz + n ≤ rs.length) (hn : n ≤ cap) :
    Reads w (.slice (some ⟨g, o + sz, none⟩) n cap) ((rs.drop sz).take n) := by
  obtain ⟨ao', c', e, hc, hcase⟩ := h
  simp only [Value.slice.injEq] at e
  obtain ⟨rfl, _, rfl⟩ := e
  rcases hcase with ⟨hf, _⟩ | ⟨g', o', e, hg, hcell⟩
  · cases hf
  · simp only [Option.some.injEq, Addr.mk.injEq] at e
    obtain ⟨rfl, rfl, _⟩ := e
    have hl : ((rs.drop sz).take n).length = n := by simp; omega
    refine ⟨_, cap, by rw [hl], by rw [hl]; exact hn, Or.inr ⟨_, _, rfl, hg, fun j u hu => ?_⟩⟩
    have hj : j < n := by
      have := (List.getElem?_eq_some_iff.1 hu).1
      rw [cellsB_length, hl] at this
      exact this
    have := hcell (sz + j) u (by rw [← hu]; simp [cellsB, hj])
    rw [Nat.add_assoc]
    exact this

theorem Reads.empty {w : World} (g o cap : Nat) (hg : g < w.heap.size) : Reads w (.slice (some ⟨g, o, none⟩) 0 cap) [] :=
  ⟨_, cap, rfl, by simp, Or.inr ⟨g, o, rfl, hg, fun j u hu => by simp [cellsB] at hu⟩⟩

theorem Reads.nil (w : World) : Reads w (.slice none 0 0) [] := ⟨none, 0, rfl, by simp, Or.inl ⟨rfl, rfl, rfl⟩⟩

theorem numR_nil (rs : List UInt8) (most : Int) : rs = [] → (numR rs most 14).2.2 ≠ 0 := by
  intro h
  subst h
  simp [numR, look]

theorem Reads.lt {w : World} {g o n c : Nat} {l : List UInt8} (h : Reads w (.slice (some ⟨g, o, none⟩) n c) l) : g < w.heap.size := h.block g rfl

theorem cut_run (g o m q cq : Nat) (hq : m ≤ cq) (h0 : 0 < cq) (w : World) : (Instr.slice 40 (.slice (some ⟨g, o, none⟩) q cq) none (some (.int .i64 (m : Int))) none).run Tryz.prog w = .ok (.slice (some ⟨g, o, none⟩) m cq) w := by
  rw [run_slice_h w 40 (some ⟨g, o, none⟩) q cq (by kernel_rfl) .i64 (m : Int) (by omega) (by omega)]
  have hs : (sizeOf (Tryz.prog.elem 40)).run Tryz.prog w = .ok 1 w := by kernel_rfl
  rw [hs]
  simp [sliced, Result.andThen, Addr.add_lit]

set_option maxHeartbeats 3200000 in
set_option maxRecDepth 1000000 in
theorem run_item {w : World} {t : Nat} {rv : Value} {rs : List UInt8} (hI : Item w t rv 0 0) (hr : Reads w rv rs) (hne : rv.ownBlock ≠ some t) (most : Int) (hlen : rs.length ≤ 140737488355328) :
    Calls Tryz.prog 172 #[.pointer (some ⟨t, 0, none⟩), .int .i64 most] w fun e w' => ∃ s, e = .returned s ∧ Reads w' s (runR rs most).1 ∧ (∀ k, s.ownBlock = some k → rv.ownBlock = some k) ∧ Item w' t rv ((runR rs most).2.1 : Int) (runR rs most).2.2 ∧ Only t w w' := by
  have HI := hid (hI)
  have HR := hid (hr)
  have HN := hid (hne)
  have e0 := runR_eq rs most
  have hs := numR_size rs most 14
  have hv := numR_val rs most 14
  have HG := hid (num_item hI hr most 14 (by omega) hlen)
  have hnil := numR_nil rs most
  obtain ⟨ao, c, hf, hc, hcase⟩ := hr
  subst hf
  clear hI hne
  generalize numR rs most 14 = r at e0 hs hv HG hnil
  obtain ⟨n, sz, er⟩ := r
  simp only at e0 hs hv HG hnil
  have HNil := hid hnil
  clear hnil
  obtain ⟨hn0, hn1, hnz⟩ := hv
  obtain ⟨m, rfl⟩ := Int.eq_ofNat_of_zero_le hn0
  have HE := hid (e0)
  have HZ := hid (hnz)
  have HC := hid (hcase)
  clear e0 hnz hcase
  go_enter Tryz.func172, Tryz.ntmps172
  go_wp2_with fail
  refine Calls.mono HG.out ?_
  rintro e w1 ⟨rfl, h1, h2⟩
  have H1 := hid (h1)
  have H2 := hid (h2)
  have HR1 := hid (HR.out.only h2 HN.out)
  have c0 : w1.cell? ⟨t, 0, none⟩ = some (.slice ao rs.length c) := by rw [cell_at h1]; rfl
  have c1 : w1.cell? ⟨t, 1, none⟩ = some (.int .i64 (sz : Int)) := by rw [cell_at h1]; rfl
  have c2 : w1.cell? ⟨t, 2, none⟩ = some (.int .i64 er) := by rw [cell_at h1]; rfl
  have f1 := free_at h1 1
  have f2 := free_at h1 2
  clear h1 h2
  clear hn0 hn1
  by_cases hz : er = 0
  · subst hz
    rcases HC.out with ⟨rfl, rfl, rfl⟩ | ⟨g, o, rfl, -, -⟩
    · exact absurd rfl (HNil.out rfl)
    · by_cases hgt : rs.length - sz < m
      · have F : Hid (runR rs most = ([], sz, 10)) := by rw [HE.out]; simp [hgt, Hid]
        have R := hid (item_err H1.out 10)
        by_cases hcs : c = sz
        · subst hcs
          have hl0 : rs.length - c = 0 := by omega
          have hm0 : 0 < m := by omega
          clear hgt hl0
          go_wp2
          go_region
          go_wp2
          go_ret
          rw [F.out]
          exact ⟨_, rfl, Reads.nil _, fun k hk => by simp [Value.ownBlock] at hk, R.out.1, (H2.out.trans R.out.2).trans (Only.drew _ _)⟩
        · go_wp2
          go_region
          have q1 : rs.length - sz < m := hgt
          have q3 : rs.length - sz ≤ 140737488355328 := by omega
          generalize hq : rs.length - sz = q at *
          generalize hcq : c - sz = cq at *
          clear hq hcq hc hs hcs hgt
          go_wp2
          go_ret
          rw [F.out]
          exact ⟨_, rfl, Reads.nil _, fun k hk => by simp [Value.ownBlock] at hk, R.out.1, (H2.out.trans R.out.2).trans (Only.drew _ _)⟩
      · have F : Hid (runR rs most = ((rs.drop sz).take m, sz + m, 0)) := by rw [HE.out]; simp [hgt, Hid]
        by_cases hcs : c = sz
        · subst hcs
          have hl0 : rs.length - c = 0 := by omega
          have hm0 : m = 0 := by omega
          subst hm0
          have R := hid (item_size H1.out (c : Int))
          have hg := hid HR1.out.lt
          go_wp2
          go_region
          go_wp2
          go_ret
          rw [F.out]
          exact ⟨_, rfl, (Reads.empty g o 0 (Nat.lt_of_lt_of_le hg.out R.out.2.size)), fun k hk => hk, R.out.1, (H2.out.trans R.out.2).trans (Only.drew _ _)⟩
        · have R := hid (item_size H1.out ((sz : Int) + (m : Int)))
          have RP := hid (HR1.out.part sz m (c - sz) (by omega) (by omega))
          have hm1 : (m : Int) ≤ (rs.length : Int) - (sz : Int) := by omega
          clear hgt
          go_wp2
          go_region
          have q1 : m ≤ rs.length - sz := by omega
          have q2 : rs.length - sz ≤ c - sz := by omega
          have q3 : rs.length - sz ≤ 140737488355328 := by omega
          have q4 : 0 < c - sz := by omega
          have q5 : sz ≤ 140737488355328 := by omega
          generalize hq : rs.length - sz = q at *
          generalize hcq : c - sz = cq at *
          clear hq hcq hm1 hc hs hcs
          have hcut := cut_run g (o + sz) m q cq (by omega) q4
          go_wp2
          go_ret
          rw [F.out]
          exact ⟨_, rfl, (RP.out.only (R.out.2.trans (Only.drew _ _)) HN.out), fun k hk => hk, R.out.1, (H2.out.trans R.out.2).trans (Only.drew _ _)⟩
  · have F : Hid (runR rs most = ([], sz, er)) := by rw [HE.out]; simp [hz, Hid]
    have hb : (er == 0) = false := by simpa using hz
    have hb' : (er != 0) = true := by simpa using hz
    have hm0 : m = 0 := by have := HZ.out hz; omega
    subst hm0
    clear hz
    rcases HC.out with ⟨rfl, rfl, rfl⟩ | ⟨g, o, rfl, -, -⟩
    · have hs0 : sz = 0 := by simpa using hs
      subst hs0
      go_wp2
      go_region
      go_wp2
      go_ret
      rw [F.out]
      exact ⟨_, rfl, Reads.nil _, fun k hk => by simp [Value.ownBlock] at hk, H1.out, H2.out.trans (Only.drew _ _)⟩
    · by_cases hcs : c = sz
      · subst hcs
        go_wp2
        go_region
        go_wp2
        go_ret
        rw [F.out]
        exact ⟨_, rfl, Reads.nil _, fun k hk => by simp [Value.ownBlock] at hk, H1.out, H2.out.trans (Only.drew _ _)⟩
      · go_wp2
        go_region
        generalize hq : rs.length - sz = q at *
        generalize hcq : c - sz = cq at *
        clear hq hcq hc hs hcs
        go_wp2
        go_ret
        rw [F.out]
        exact ⟨_, rfl, Reads.nil _, fun k hk => by simp [Value.ownBlock] at hk, H1.out, H2.out.trans (Only.drew _ _)⟩

end Go.Proofs.YthoppemjfdnibaaGreatDoor

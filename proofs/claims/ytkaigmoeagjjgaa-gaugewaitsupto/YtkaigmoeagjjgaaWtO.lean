import Derived.Test.YtkaigmoeagjjgaaOpenI
import Derived.Test.YtkaigmoeagjjgaaWt5
import Derived.Test.YtkaigmoeagjjgaaRows
namespace Go.Proofs.Ytkaigmoeagjjgaa
open Go.ChangeShapes Go.WideShapes Go.ChangeAt Go.RowKit Go.Deep Go.Joins
set_option linter.unusedVariables false
set_option maxRecDepth 100000

section
variable {H : Type} (enc : TypeId × Value → H) (W : World)
/-- what reads as a value of the type is of cells -/
def One (t : TypeId) : Prop := ∀ fuel cs x, DataW.trod enc Try.prog W 0 (fun _ => true) true fuel t cs = some x → ∀ u ∈ cs, u.oneCell' = true
theorem one_int {t : TypeId} {k : IntKind} (ht : Try.prog.underlying t = some (.int k)) : One enc W t := fun fuel cs x h u hu => by
  obtain ⟨n, rfl, _⟩ := DataW.trod_int ht h
  rw [List.mem_singleton] at hu; subst hu; rfl
theorem one_bool {t : TypeId} (ht : Try.prog.underlying t = some .bool) : One enc W t := fun fuel cs x h u hu => by
  obtain ⟨n, rfl, _⟩ := DataW.trod_bool ht h
  rw [List.mem_singleton] at hu; subst hu; rfl
theorem one_string {t : TypeId} (ht : Try.prog.underlying t = some .string) : One enc W t := fun fuel cs x h u hu => by
  obtain ⟨n, rfl, _⟩ := DataW.trod_string ht h
  rw [List.mem_singleton] at hu; subst hu; rfl
theorem one_slice {t e : TypeId} (ht : Try.prog.underlying t = some (.slice e)) : One enc W t := fun fuel cs x h u hu => by
  rcases open_slice ht h with ⟨rfl, _⟩ | ⟨a, len, cap, m, n, D, Pl, rfl, _⟩
  · rw [List.mem_singleton] at hu; subst hu; rfl
  · rw [List.mem_singleton] at hu; subst hu; rfl
theorem one_struct {t : TypeId} {fs : Array Field} (ht : Try.prog.underlying t = some (.struct fs)) (hc : ((List.range (Try.prog.cellsOf t)).all fun j => fs.any fun f => decide (f.offset ≤ j) && decide (j < f.offset + Try.prog.cellsOf f.type)) = true) (hone : ∀ f ∈ fs.toList, One enc W f.type) : One enc W t := fun fuel cs x h u hu => by
  obtain ⟨xs, n, rfl, rfl, hl, hlen, hf⟩ := DataW.trod_struct ht h
  obtain ⟨j, hj⟩ := List.mem_iff_getElem?.1 hu
  have hjl : j < Try.prog.cellsOf t := by rw [← hl]; exact (List.getElem?_eq_some_iff.1 hj).1
  have h1 := List.all_eq_true.1 hc j (List.mem_range.2 hjl)
  obtain ⟨i, hi, h2⟩ := Array.any_eq_true.1 h1
  simp only [Bool.and_eq_true, decide_eq_true_eq] at h2
  have h3 := hf i fs[i] (Array.getElem?_eq_getElem hi)
  have hix : i < xs.length := by omega
  rw [List.getElem?_eq_getElem hix] at h3
  refine hone fs[i] (by simp) _ _ _ h3 u ?_
  refine List.mem_iff_getElem?.2 ⟨j - fs[i].offset, ?_⟩
  rw [List.getElem?_take, if_pos (by omega), List.getElem?_drop, show fs[i].offset + (j - fs[i].offset) = j by omega]
  exact hj
theorem one63 : One enc W 63 := one_struct enc W Try.underlying63 (by kernel_rfl) (fun f hf => by
  simp only [List.mem_cons, List.not_mem_nil, or_false] at hf
  rcases hf with rfl | rfl | rfl | rfl | rfl
  all_goals first | exact one_int enc W Try.underlying3 | exact one_string enc W Try.underlying9)
theorem one65 : One enc W 65 := one_struct enc W Try.underlying65 (by kernel_rfl) (fun f hf => by
  simp only [List.mem_cons, List.not_mem_nil, or_false] at hf
  rcases hf with rfl | rfl | rfl
  all_goals first | exact one_int enc W Try.underlying3 | exact one63 enc W)
theorem one68 : One enc W 68 := one_struct enc W Try.underlying68 (by kernel_rfl) (fun f hf => by
  simp only [List.mem_cons, List.not_mem_nil, or_false] at hf
  rcases hf with rfl | rfl | rfl
  all_goals first | exact one_int enc W Try.underlying3 | exact one_slice enc W Try.underlying66)
theorem one70 : One enc W 70 := one_struct enc W Try.underlying70 (by kernel_rfl) (fun f hf => by
  simp only [List.mem_cons, List.not_mem_nil, or_false] at hf
  rcases hf with rfl | rfl | rfl | rfl | rfl | rfl | rfl | rfl
  all_goals exact one_int enc W Try.underlying3)
theorem one73 : One enc W 73 := one_struct enc W Try.underlying73 (by kernel_rfl) (fun f hf => by
  simp only [List.mem_cons, List.not_mem_nil, or_false] at hf
  rcases hf with rfl | rfl | rfl
  all_goals first | exact one_int enc W Try.underlying3 | exact one_slice enc W Try.underlying71)
theorem one75 : One enc W 75 := one_struct enc W Try.underlying75 (by kernel_rfl) (fun f hf => by
  simp only [List.mem_cons, List.not_mem_nil, or_false] at hf
  rcases hf with rfl | rfl | rfl | rfl | rfl | rfl | rfl | rfl | rfl | rfl | rfl | rfl
  all_goals first | exact one_int enc W Try.underlying3 | exact one_int enc W Try.underlying28 | exact one_bool enc W Try.underlying4 | exact one63 enc W | exact one65 enc W | exact one68 enc W | exact one70 enc W | exact one73 enc W)
theorem Try.cellsOf75 : Try.prog.cellsOf 75 = 33 := by kernel_rfl
theorem ev_cells {fuel : Nat} {cs : List Value} {x : DataW H × List MemPlace} (h : DataW.trod enc Try.prog W 0 (fun _ => true) true fuel 75 cs = some x) : ∃ k a n, cs.length = 33 ∧ cs[0]? = some (.int .i64 k) ∧ cs[1]? = some (.int .i64 a) ∧ cs[2]? = some (.int .i64 n) ∧ okI a ∧ okI n ∧ ∀ u ∈ cs, u.oneCell' = true := by
  have h1 := one75 enc W fuel cs x h
  obtain ⟨xs, f, _, rfl, hl, hlen, hf⟩ := DataW.trod_struct Try.underlying75 h
  have hlen : xs.length = 12 := hlen
  rw [Try.cellsOf75] at hl
  have get : ∀ i o, (hi : i < 12) → (hf' : DataW.trod enc Try.prog W 0 (fun _ => true) true f 3 ((cs.drop o).take (Try.prog.cellsOf 3)) = xs[i]?) → ∃ k, cs[o]? = some (.int .i64 k) ∧ okI k := fun i o hi hf' => by
    rw [List.getElem?_eq_getElem (by omega)] at hf'
    obtain ⟨k, e, _, hw⟩ := DataW.trod_int Try.underlying3 hf'
    rw [Try.cellsOf3] at e
    refine ⟨k, ?_, hw⟩
    have := congrArg (fun l => l[0]?) e
    simpa [List.getElem?_take, List.getElem?_drop] using this
  obtain ⟨k, e0, _⟩ := get 0 0 (by omega) (hf 0 _ rfl)
  obtain ⟨a, e1, wa⟩ := get 1 1 (by omega) (hf 1 _ rfl)
  obtain ⟨n, e2, wn⟩ := get 2 2 (by omega) (hf 2 _ rfl)
  exact ⟨k, a, n, hl, e0, e1, e2, wa, wn, h1⟩
theorem bulk_one {H : Type} (d : DataW H) : 1 ≤ Rows.uptoBulk d := by
  cases d with
  | lit l => cases l <;> simp [Rows.uptoBulk]
  | _ => simp [Rows.uptoBulk]
theorem bulk_count {H : Type} (ds : List (DataW H)) : ds.length ≤ Rows.uptoBulkAll ds := by
  induction ds with
  | nil => simp
  | cons d r ih =>
    have := bulk_one d
    simp only [List.length_cons, Rows.uptoBulkAll]
    omega
theorem bulk_tot {H : Type} {f : Nat → List Ev} {D : Nat → DataW H} : ∀ is : List Nat, (∀ i ∈ is, (f i).length ≤ Rows.uptoBulk (D i)) → tot (is.map f) ≤ Rows.uptoBulkAll (is.map D)
  | [], _ => by simp [tot]
  | i :: is, h => by
    have h1 := h i (by simp)
    have h2 := bulk_tot is (fun j hj => h j (by simp [hj]))
    simp only [tot, List.map_cons, List.sum_cons, Rows.uptoBulkAll] at h2 ⊢
    omega
theorem addr_add_add (a : Addr) (i j : Nat) : (a.add i).add j = a.add (i + j) := add_add a i j
theorem one_evs {fuel : Nat} {cs : List Value} {d : DataW H} {p : List MemPlace} (h : DataW.trod enc Try.prog W 0 (fun _ => true) true fuel 61 cs = some (d, p)) : ∃ u r, cs = [u] ∧ EvsAt W u r ∧ r.length ≤ Rows.uptoBulk d ∧ ∀ e ∈ r, okI e.a ∧ okI e.n := by
  rcases open_slice Try.underlying61 h with ⟨rfl, hx⟩ | ⟨a, l0, c0, m, n, D, Pl, rfl, _, hl, hm, hmm, hx, hel⟩
  · exact ⟨_, [], rfl, ⟨none, 0, rfl, by simp, .inl rfl⟩, by simp, by simp⟩
  · have hlm : l0 ≤ m := by rw [hmm]; split <;> omega
    simp only [Prod.mk.injEq] at hx
    obtain ⟨rfl, _⟩ := hx
    have each : ∀ i, i < l0 → ∃ e : Ev, (e.us.length = 33 ∧ e.us[0]? = some (.int .i64 e.k) ∧ e.us[1]? = some (.int .i64 e.a) ∧ e.us[2]? = some (.int .i64 e.n) ∧ (∀ u ∈ e.us, u.oneCell' = true)) ∧ (okI e.a ∧ okI e.n) ∧ ∀ j u, e.us[j]? = some u → W.cell? (a.add (i * 33 + j)) = some u := by
      intro i hi
      obtain ⟨cs', h1, h2⟩ := hel i (by omega)
      rw [Try.cellsOf75] at h1
      obtain ⟨_, hlen, hcell⟩ := World.cells?_some h1
      obtain ⟨k, b, c, e1, e2, e3, e4, w1, w2, h3⟩ := ev_cells enc W h2
      refine ⟨⟨k, b, c, cs'⟩, ⟨e1, e2, e3, e4, h3⟩, ⟨w1, w2⟩, fun j u hu => ?_⟩
      have hj : j < 33 := by
        have := (List.getElem?_eq_some_iff.1 hu).1
        change j < cs'.length at this
        omega
      have q := hcell j (by omega)
      rw [add_add] at q
      rw [q]
      exact hu
    haveI : Inhabited Ev := ⟨⟨0, 0, 0, []⟩⟩
    obtain ⟨f, hf'⟩ := choose_lt each
    have hcnt := bulk_count ((List.range l0).map D)
    refine ⟨_, (List.range l0).map f, rfl, ⟨some a, c0, by simp, by simpa using hl, ?_⟩, ?_, fun e he => ?_⟩
    · by_cases h0 : l0 = 0
      · left; subst h0; rfl
      · right
        have h00 := (hf' 0 (by omega)).2.2 0 _ (hf' 0 (by omega)).1.2.1
        have hsp : a.spot = none := by
          have := World.cell?_spot h00
          simpa [Addr.add] using this
        have hbl : a.block < W.heap.size := by
          have := World.block_lt_of_cell? W _ h00
          simpa [Addr.add] using this
        obtain ⟨b, off, sp⟩ := a
        simp only at hsp hbl
        subst hsp
        refine ⟨b, off, rfl, hbl, fun j e he => ?_⟩
        have hj : j < l0 := by
          have := (List.getElem?_eq_some_iff.1 he).1
          simpa using this
        obtain rfl : f j = e := by
          rw [List.getElem?_map, List.getElem?_range hj] at he
          simpa using he
        obtain ⟨⟨q1, q2, q3, q4, q5⟩, _, hcell⟩ := hf' j hj
        refine ⟨q1, fun i u hu => ?_, q2, q3, q4, q5⟩
        have := hcell i u hu
        rw [Addr.add_lit] at this
        rw [Nat.add_assoc]
        exact this
    · simp only [Rows.uptoBulk]
      simp at hcnt ⊢
      omega
    · obtain ⟨i, hi, rfl⟩ := List.mem_map.1 he
      exact (hf' i (List.mem_range.1 hi)).2.1
theorem open_hist {v : Value} {d : DataW H} {p : List MemPlace} (h : DataW.Trod enc Try.prog W 0 (fun _ => true) true 43 v d p) (hv : ∃ a l c, v = .slice a l c) :
    ∃ L, HistAt W v L ∧ (∀ r ∈ L, ∀ e ∈ r, okI e.a ∧ okI e.n) ∧ tot L ≤ Rows.uptoBulk d ∧ L.length ≤ Rows.uptoBulk d := by
  obtain ⟨fuel, hf⟩ := h
  obtain ⟨a0, l0, c0, rfl⟩ := hv
  rcases open_slice Try.underlying43 hf with ⟨hcs, hx⟩ | ⟨a, len, cap, m, n, D, Pl, hcs, _, hl, hm, hmm, hx, hel⟩
  · simp [Value.cells] at hcs
    obtain ⟨rfl, rfl, rfl⟩ := hcs
    exact ⟨[], ⟨none, 0, rfl, by simp, .inl rfl⟩, by simp, by simp [tot], by simp⟩
  · simp [Value.cells] at hcs
    obtain ⟨rfl, rfl, rfl⟩ := hcs
    have hlm : l0 ≤ m := by rw [hmm]; split <;> omega
    simp only [Prod.mk.injEq] at hx
    obtain ⟨rfl, _⟩ := hx
    have c61 : Try.prog.cellsOf 61 = 1 := by kernel_rfl
    have each : ∀ i, i < l0 → ∃ r : List Ev, (∃ u, W.cell? (a.add i) = some u ∧ EvsAt W u r) ∧ r.length ≤ Rows.uptoBulk (D i) ∧ ∀ e ∈ r, okI e.a ∧ okI e.n := by
      intro i hi
      obtain ⟨cs', h1, h2⟩ := hel i (by omega)
      rw [c61] at h1
      obtain ⟨_, hlen, hcell⟩ := World.cells?_some h1
      obtain ⟨u, r, rfl, h3, h4, h5⟩ := one_evs enc W h2
      have q0 := hcell 0 (by simp)
      rw [add_add] at q0
      exact ⟨r, ⟨u, by simpa using q0, h3⟩, h4, h5⟩
    obtain ⟨f, hf'⟩ := choose_lt each
    have hcnt := bulk_count ((List.range l0).map D)
    have htot := bulk_tot (f := f) (D := D) (List.range l0) (fun i hi => (hf' i (List.mem_range.1 hi)).2.1)
    refine ⟨(List.range l0).map f, ⟨some a, c0, by simp, by simpa using hl, ?_⟩, fun r hr => ?_, ?_, ?_⟩
    · by_cases h0 : l0 = 0
      · left; subst h0; rfl
      · right
        obtain ⟨u0, hu0, _⟩ := (hf' 0 (by omega)).1
        have hsp : a.spot = none := by
          have := World.cell?_spot hu0
          simpa [Addr.add] using this
        have hbl : a.block < W.heap.size := by
          have := World.block_lt_of_cell? W _ hu0
          simpa [Addr.add] using this
        obtain ⟨b, off, sp⟩ := a
        simp only at hsp hbl
        subst hsp
        refine ⟨b, off, rfl, hbl, fun i r hr => ?_⟩
        have hi : i < l0 := by
          have := (List.getElem?_eq_some_iff.1 hr).1
          simpa using this
        obtain rfl : f i = r := by
          rw [List.getElem?_map, List.getElem?_range hi] at hr
          simpa using hr
        obtain ⟨u, hu, hE⟩ := (hf' i hi).1
        rw [Addr.add_lit] at hu
        exact ⟨u, hu, hE⟩
    · obtain ⟨i, hi, rfl⟩ := List.mem_map.1 hr
      exact (hf' i (List.mem_range.1 hi)).2.2
    · simp only [Rows.uptoBulk]
      omega
    · simp only [Rows.uptoBulk]
      simp at hcnt ⊢
      omega
end
end Go.Proofs.Ytkaigmoeagjjgaa

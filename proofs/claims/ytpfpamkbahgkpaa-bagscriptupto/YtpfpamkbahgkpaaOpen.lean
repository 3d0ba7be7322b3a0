import Derived.Test.YtpfpamkbahgkpaaLaid
import Derived.Test.YtpfpamkbahgkpaaOps
namespace Go.Proofs.Ytpfpamkbahgkpaa
open Go.ChangeShapes Go.WideShapes Go.ChangeAt Go.RowKit Go.Deep Go.Joins
set_option linter.unusedVariables false

theorem Try.cellsOf3 : Try.prog.cellsOf 3 = 1 := by kernel_rfl
theorem Try.cellsOf4 : Try.prog.cellsOf 4 = 1 := by kernel_rfl
theorem Try.cellsOf5 : Try.prog.cellsOf 5 = 1 := by kernel_rfl
theorem Try.cellsOf31 : Try.prog.cellsOf 31 = 1 := by kernel_rfl
theorem Try.cellsOf33 : Try.prog.cellsOf 33 = 6 := by kernel_rfl
theorem Try.bytesOf5 : Try.prog.bytesOf 5 = 1 := by kernel_rfl
theorem Try.bytesOf33 : Try.prog.bytesOf 33 = 64 := by kernel_rfl
theorem reach_num : reachBytes = 140737488351232 := by decide
theorem u8_wf {n : Int} (h : (Lit.int .u8 n).wf = true) : 0 ≤ n ∧ n < 256 := by
  have : 0 ≤ n ∧ n ≤ 255 := by simpa [Lit.wf, IntKind.min, IntKind.max, IntKind.signed, IntKind.bits] using h
  omega
theorem weights_mem_all {H : Type} {P : Program} {e : TypeId} : ∀ {ds : List (DataW H)} {d : DataW H}, d ∈ ds → ∀ n ∈ d.weights P e, n ∈ DataW.weightsAll P e ds
  | a :: r, d, h, n, hn => by
    simp only [DataW.weightsAll, List.mem_append]
    rcases List.mem_cons.1 h with rfl | hd
    · exact Or.inl hn
    · exact Or.inr (weights_mem_all hd n hn)

section
variable {H : Type} {enc : TypeId × Value → H} {W : World}
/-- Bytes that came in. -/
theorem data_cells {n : Nat} {cs : List Value} {x : DataW H × List MemPlace} (h : DataW.trod enc Try.prog W 0 (fun _ => true) true n 31 cs = some x) (hz : ∀ n ∈ x.1.weights Try.prog 31, n ≤ reachBytes) : ∃ a c bs, cs = [.slice a (List.length bs) c] ∧ Reads W (.slice a (List.length bs) c) bs ∧ bs.length ≤ 140737488351232 := by
  rcases open_ints Try.underlying31 Try.underlying5 Try.cellsOf5 h with ⟨hcs, hx⟩ | ⟨a, l0, c0, zs, hcs, _, hl, hm, hz2, hx, hcell, hwz⟩
  · exact ⟨_, _, [], hcs, Reads.nil _, by simp⟩
  · simp only [if_true] at hz2
    have hlz : ((zs.take l0).map fun z => UInt8.ofNat z.toNat).length = l0 := by simp; omega
    refine ⟨some a, c0, (zs.take l0).map fun z => UInt8.ofNat z.toNat, by rw [hlz]; exact hcs, ?_, ?_⟩
    · rw [hlz]
      by_cases h0 : l0 = 0
      · subst h0
        exact ⟨some a, c0, by simp, by simp, Or.inl ⟨by simp, fun h => by cases h⟩⟩
      · have hc0 := hcell 0 (by omega)
        have hsp : a.spot = none := by
          have := World.cell?_spot hc0
          simpa [Addr.add] using this
        obtain ⟨b, off, sp⟩ := a
        simp only at hsp
        subst hsp
        refine ⟨_, c0, by rw [hlz], by rw [hlz]; exact hl, Or.inr ⟨b, off, rfl, ?_, fun j u hu => ?_⟩⟩
        · have := World.block_lt_of_cell? W _ hc0
          simpa [Addr.add] using this
        · have hj : j < l0 := by
            have := (List.getElem?_eq_some_iff.1 hu).1
            rw [cellsB_length, hlz] at this
            exact this
          have hjz : j < zs.length := by omega
          have hc := hcell j hjz
          rw [Addr.add_lit] at hc
          rw [hc, ← hu]
          have hw := u8_wf (hwz zs[j] (List.getElem_mem hjz))
          have e : ((UInt8.ofNat zs[j].toNat).toNat : Int) = zs[j] := by
            rw [UInt8.toNat_ofNat']
            omega
          simp only [cellsB, List.getElem?_map, List.getElem?_take, hj, if_true, List.getElem?_eq_getElem hjz, Option.map_some, List.getD, Option.getD_some, e]
    · rw [hlz]
      rw [hx] at hz
      have := hz ((l0 + (zs.length - l0)) * 1) (by
        simp [DataW.weights, Try.underlying31, Try.bytesOf5, lits, Nat.min_eq_left (show l0 ≤ zs.length by omega)])
      rw [reach_num] at this
      omega
theorem open_bytes {v : Value} {d : DataW H} {p : List MemPlace} (h : DataW.Trod enc Try.prog W 0 (fun _ => true) true 31 v d p) (hv : ∃ a l c, v = .slice a l c) (hz : ∀ n ∈ d.weights Try.prog 31, n ≤ reachBytes) : ∃ l, Reads W v l ∧ l.length ≤ 140737488351232 := by
  obtain ⟨fuel, hf⟩ := h
  obtain ⟨a0, l0, c0, rfl⟩ := hv
  obtain ⟨a, c, bs, e, hr, hl⟩ := data_cells hf hz
  simp [Value.cells] at e
  obtain ⟨rfl, rfl, rfl⟩ := e
  exact ⟨bs, hr, hl⟩

theorem nth {α : Type} {l : List α} {n i : Nat} (hl : l.length = n) (hi : i < n) : ∃ y, l[i]? = some y := ⟨_, List.getElem?_eq_getElem (by omega)⟩
theorem list6 {l : List Value} {a b c d e f : Value} (hl : l.length = 6) (h0 : (l.drop 0).take 1 = [a]) (h1 : (l.drop 1).take 1 = [b]) (h2 : (l.drop 2).take 1 = [c]) (h3 : (l.drop 3).take 1 = [d]) (h4 : (l.drop 4).take 1 = [e]) (h5 : (l.drop 5).take 1 = [f]) : l = [a, b, c, d, e, f] := by
  match l, hl with
  | [x0, x1, x2, x3, x4, x5], _ => simp at h0 h1 h2 h3 h4 h5; simp [h0, h1, h2, h3, h4, h5]

set_option maxRecDepth 100000 in
theorem op_cells {fuel : Nat} {cs : List Value} {x : DataW H × List MemPlace} (h : DataW.trod enc Try.prog W 0 (fun _ => true) true fuel 33 cs = some x) (hz : ∀ n ∈ x.1.weights Try.prog 33, n ≤ reachBytes) : ∃ e : OpV, cs = e.cells ∧ Reads W (.slice e.ao e.o.d.length e.c) e.o.d ∧ e.o.d.length ≤ 140737488351232 := by
  obtain ⟨xs, f, _, rfl, hl, hlen, hf⟩ := DataW.trod_struct Try.underlying33 h
  have hlen : xs.length = 6 := hlen
  obtain ⟨y0, hy0⟩ := nth hlen (i := 0) (by omega)
  obtain ⟨y1, hy1⟩ := nth hlen (i := 1) (by omega)
  obtain ⟨y2, hy2⟩ := nth hlen (i := 2) (by omega)
  obtain ⟨y3, hy3⟩ := nth hlen (i := 3) (by omega)
  obtain ⟨y4, hy4⟩ := nth hlen (i := 4) (by omega)
  obtain ⟨y5, hy5⟩ := nth hlen (i := 5) (by omega)
  have g0 : DataW.trod enc Try.prog W 0 (fun _ => true) true f 4 ((cs.drop 0).take (Try.prog.cellsOf 4)) = some y0 := (hf 0 _ rfl).trans hy0
  have g1 : DataW.trod enc Try.prog W 0 (fun _ => true) true f 3 ((cs.drop 1).take (Try.prog.cellsOf 3)) = some y1 := (hf 1 _ rfl).trans hy1
  have g2 : DataW.trod enc Try.prog W 0 (fun _ => true) true f 3 ((cs.drop 2).take (Try.prog.cellsOf 3)) = some y2 := (hf 2 _ rfl).trans hy2
  have g3 : DataW.trod enc Try.prog W 0 (fun _ => true) true f 3 ((cs.drop 3).take (Try.prog.cellsOf 3)) = some y3 := (hf 3 _ rfl).trans hy3
  have g4 : DataW.trod enc Try.prog W 0 (fun _ => true) true f 3 ((cs.drop 4).take (Try.prog.cellsOf 3)) = some y4 := (hf 4 _ rfl).trans hy4
  have g5 : DataW.trod enc Try.prog W 0 (fun _ => true) true f 31 ((cs.drop 5).take (Try.prog.cellsOf 31)) = some y5 := (hf 5 _ rfl).trans hy5
  rw [Try.cellsOf4] at g0
  rw [Try.cellsOf3] at g1 g2 g3 g4
  rw [Try.cellsOf31] at g5
  rw [Try.cellsOf33] at hl
  have hz5 : ∀ n ∈ y5.1.weights Try.prog 31, n ≤ reachBytes := fun n hn => hz n (by
    simp only [DataW.weights, Try.underlying33]
    exact DataW.weights_mem_each (j := 5) rfl (by simp [hy5]) n hn)
  obtain ⟨s, e0, r0⟩ := DataW.trod_bool Try.underlying4 g0
  obtain ⟨k, e1, r1, w1⟩ := DataW.trod_int Try.underlying3 g1
  obtain ⟨a, e2, r2, w2⟩ := DataW.trod_int Try.underlying3 g2
  obtain ⟨b, e3, r3, w3⟩ := DataW.trod_int Try.underlying3 g3
  obtain ⟨y, e4, r4, w4⟩ := DataW.trod_int Try.underlying3 g4
  obtain ⟨d1, d3, bs, e5, hr, hb⟩ := data_cells g5 hz5
  exact ⟨⟨⟨s, k, a, b, y, bs⟩, d1, d3⟩, list6 hl e0 e1 e2 e3 e4 e5, hr, hb⟩

set_option maxRecDepth 100000 in
/-- A script's cells. -/
theorem ops_cells {fuel : Nat} {cs : List Value} {x : DataW H × List MemPlace} (h : DataW.trod enc Try.prog W 0 (fun _ => true) true fuel 22 cs = some x) (hz : ∀ n ∈ x.1.weights Try.prog 22, n ≤ reachBytes) : ∃ v xs, cs = [v] ∧ OpsAt W v xs ∧ xs.length * 64 ≤ 140737488351232 := by
  rcases open_slice Try.underlying22 h with ⟨hcs, hx⟩ | ⟨a, l0, c0, m, n, D, Pl, hcs, _, hl, hm, hmm, hx, hel⟩
  · exact ⟨_, [], hcs, ⟨none, 0, rfl, fun i x hi => by simp at hi⟩, by simp⟩
  · have hlm : l0 ≤ m := by rw [hmm]; split <;> omega
    rw [hx] at hz
    have hle : ∀ i, i < l0 → ∀ k ∈ (D i).weights Try.prog 33, k ≤ reachBytes := fun i hi k hk => hz k (by
      simp only [DataW.weights, Try.underlying22, List.mem_cons, List.mem_append]
      exact Or.inr (Or.inl (weights_mem_all (List.mem_map_of_mem (List.mem_range.2 hi)) k hk)))
    have hw : l0 * 64 ≤ 140737488351232 := by
      have := hz ((l0 + (m - l0)) * 64) (by
        simp [DataW.weights, Try.underlying22, Try.bytesOf33])
      rw [reach_num] at this
      omega
    have each : ∀ i, i < l0 → ∃ y : OpV, (Reads W (.slice y.ao y.o.d.length y.c) y.o.d ∧ y.o.d.length ≤ 140737488351232) ∧ ∀ j u, y.cells[j]? = some u → W.cell? (a.add (i * 6 + j)) = some u := by
      intro i hi
      obtain ⟨cs', h1, h2⟩ := hel i (by omega)
      rw [Try.cellsOf33] at h1
      obtain ⟨_, hlen, hcell⟩ := World.cells?_some h1
      obtain ⟨e, rfl, hr, hbb⟩ := op_cells h2 (hle i hi)
      refine ⟨e, ⟨hr, hbb⟩, fun j u hu => ?_⟩
      have hj : j < 6 := by
        have := (List.getElem?_eq_some_iff.1 hu).1
        simpa [OpV.cells] using this
      have q := hcell j (by omega)
      rw [add_add] at q
      rw [q, ← hu]
    haveI : Inhabited OpV := ⟨⟨⟨false, 0, 0, 0, 0, []⟩, none, 0⟩⟩
    obtain ⟨f, hf'⟩ := choose_lt each
    refine ⟨_, (List.range l0).map f, hcs, ⟨some a, c0, by simp, fun i x hi => ?_⟩, by simpa using hw⟩
    have hil : i < l0 := by
      have := (List.getElem?_eq_some_iff.1 hi).1
      simpa using this
    obtain rfl : f i = x := by
      rw [List.getElem?_map, List.getElem?_range hil] at hi
      simpa using hi
    have h00 := (hf' 0 (by omega)).2 0 _ rfl
    have hsp : a.spot = none := by
      have := World.cell?_spot h00
      simpa [Addr.add] using this
    obtain ⟨b, off, sp⟩ := a
    simp only at hsp
    subst hsp
    refine ⟨⟨b, off, rfl, ?_, fun j u hu => ?_⟩, (hf' i hil).1⟩
    · have := World.block_lt_of_cell? W _ h00
      simpa [Addr.add] using this
    · have := (hf' i hil).2 j u hu
      simpa [Addr.add_lit, Nat.add_assoc] using this
theorem open_ops {v : Value} {d : DataW H} {p : List MemPlace} (h : DataW.Trod enc Try.prog W 0 (fun _ => true) true 22 v d p) (hv : ∃ a l c, v = .slice a l c) (hz : ∀ n ∈ d.weights Try.prog 22, n ≤ reachBytes) : ∃ xs, OpsAt W v xs ∧ xs.length * 64 ≤ 140737488351232 := by
  obtain ⟨fuel, hf⟩ := h
  obtain ⟨a0, l0, c0, rfl⟩ := hv
  obtain ⟨v, xs, e, hr, hl⟩ := ops_cells hf hz
  simp [Value.cells] at e
  subst e
  exact ⟨xs, hr, hl⟩
end
end Go.Proofs.Ytpfpamkbahgkpaa

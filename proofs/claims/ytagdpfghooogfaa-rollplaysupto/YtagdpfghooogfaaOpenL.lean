import Derived.Test.YtagdpfghooogfaaLaid
import Derived.Test.YtagdpfghooogfaaJ6
namespace Go.Proofs.Ytagdpfghooogfaa
open Go.ChangeShapes Go.WideShapes Go.ChangeAt Go.RowKit Go.Deep Go.Joins
set_option linter.unusedVariables false

theorem Try.cells5 : Try.prog.cellsOf 5 = 1 := by kernel_rfl
theorem Try.cells40 : Try.prog.cellsOf 40 = 1 := by kernel_rfl

theorem u8_wf {n : Int} (h : (Lit.int .u8 n).wf = true) : 0 ≤ n ∧ n < 256 := by
  have : 0 ≤ n ∧ n ≤ 255 := by simpa [Lit.wf, IntKind.min, IntKind.max, IntKind.signed, IntKind.bits] using h
  omega

theorem bulk_lits {H : Type} (k : IntKind) (zs : List Int) : Rows.uptoBulkAll (lits (H := H) k zs) = zs.length := by
  induction zs with
  | nil => rfl
  | cons z r ih =>
    simp only [lits, List.map_cons, Rows.uptoBulkAll, Rows.uptoBulk, List.length_cons] at ih ⊢
    omega

/-- Bytes that came in. -/
theorem open_bytes {H : Type} {enc : TypeId × Value → H} {W : World} {v : Value} {d : DataW H} {p : List MemPlace} (h : DataW.Trod enc Try.prog W 0 (fun _ => true) true 40 v d p) (hv : ∃ a l c, v = .slice a l c) :
    ∃ l, ReadsW W v l ∧ l.length ≤ Rows.uptoBulk d := by
  obtain ⟨fuel, hf⟩ := h
  obtain ⟨a0, l0, c0, rfl⟩ := hv
  rcases open_ints Try.underlying40 Try.underlying5 Try.cells5 hf with ⟨hcs, hx⟩ | ⟨a, len, cap, zs, hcs, _, hl, hm, hz, hx, hcell, hwz⟩
  · simp [Value.cells] at hcs
    obtain ⟨rfl, rfl, rfl⟩ := hcs
    exact ⟨[], .inl ⟨none, 0, rfl, by simp, .inl ⟨rfl, rfl, rfl⟩⟩, by simp⟩
  · simp [Value.cells] at hcs
    obtain ⟨rfl, rfl, rfl⟩ := hcs
    simp only [if_true] at hz
    simp only [Prod.mk.injEq] at hx
    obtain ⟨rfl, _⟩ := hx
    have hlz : ((zs.take l0).map fun z => UInt8.ofNat z.toNat).length = l0 := by simp; omega
    refine ⟨(zs.take l0).map fun z => UInt8.ofNat z.toNat, ?_, ?_⟩
    · by_cases h0 : l0 = 0
      · subst h0
        exact .inr ⟨by simp, a, c0, rfl⟩
      · have hc0 := hcell 0 (by omega)
        have hsp : a.spot = none := by
          have := World.cell?_spot hc0
          simpa [Addr.add] using this
        obtain ⟨b, off, sp⟩ := a
        simp only at hsp
        subst hsp
        refine .inl ⟨_, c0, by rw [hlz], by rw [hlz]; exact hl, Or.inr ⟨b, off, rfl, ?_, fun j u hu => ?_⟩⟩
        · have := World.block_lt_of_cell? W _ hc0
          simpa [Addr.add] using this
        · have hj : j < l0 := by
            have := (List.getElem?_eq_some_iff.1 hu).1
            rw [cellsB_length, hlz] at this
            exact this
          have hjz : j < zs.length := by omega
          have hc := hcell j hjz
          rw [Addr.add_lit] at hc
          rw [hc, ← hu]
          have hw := u8_wf (hwz zs[j] (List.getElem_mem hjz))
          have e : ((UInt8.ofNat zs[j].toNat).toNat : Int) = zs[j] := by
            rw [UInt8.toNat_ofNat']
            omega
          simp only [cellsB, List.getElem?_map, List.getElem?_take, hj, if_true, List.getElem?_eq_getElem hjz, Option.map_some, List.getD, Option.getD_some, e]
    · rw [hlz]
      have h1 := bulk_lits (H := H) .u8 (zs.take l0)
      simp only [Rows.uptoBulk, h1, List.length_take]
      omega

theorem bulk_one {H : Type} (d : DataW H) : 1 ≤ Rows.uptoBulk d := by
  cases d with
  | lit l => cases l <;> simp [Rows.uptoBulk]
  | _ => simp [Rows.uptoBulk]

theorem bulk_count {H : Type} (ds : List (DataW H)) : ds.length ≤ Rows.uptoBulkAll ds := by
  induction ds with
  | nil => simp
  | cons d r ih =>
    have := bulk_one d
    simp only [List.length_cons, Rows.uptoBulkAll]
    omega

theorem bulk_mem {H : Type} {d : DataW H} {ds : List (DataW H)} (h : d ∈ ds) : Rows.uptoBulk d ≤ Rows.uptoBulkAll ds := by
  induction ds with
  | nil => simp at h
  | cons a r ih =>
    simp only [Rows.uptoBulkAll]
    rcases List.mem_cons.1 h with rfl | h
    · omega
    · have := ih h
      omega

theorem one_bytes {H : Type} {enc : TypeId × Value → H} {W : World} {n : Nat} {cs : List Value} {d : DataW H} {p : List MemPlace} (h : DataW.trod enc Try.prog W 0 (fun _ => true) true n 40 cs = some (d, p)) : ∃ u l, cs = [u] ∧ ReadsW W u l ∧ l.length ≤ Rows.uptoBulk d := by
  have hcs : ∃ a l c, cs = [.slice a l c] := by
    rcases open_ints Try.underlying40 Try.underlying5 Try.cells5 h with ⟨hcs, _⟩ | ⟨a, len, cap, zs, hcs, _⟩
    · exact ⟨_, _, _, hcs⟩
    · exact ⟨_, _, _, hcs⟩
  obtain ⟨a, l, c, rfl⟩ := hcs
  obtain ⟨b, h1, h2⟩ := open_bytes (enc := enc) (v := .slice a l c) ⟨n, h⟩ ⟨a, l, c, rfl⟩
  exact ⟨_, b, rfl, h1, h2⟩

/-- Lists of bytes that came in. -/
theorem open_lists {H : Type} {enc : TypeId × Value → H} {W : World} {v : Value} {d : DataW H} {p : List MemPlace} (h : DataW.Trod enc Try.prog W 0 (fun _ => true) true 32 v d p) (hv : ∃ a l c, v = .slice a l c) :
    ∃ ls, ListsW W v ls ∧ ls.length ≤ Rows.uptoBulk d ∧ ∀ l ∈ ls, l.length ≤ Rows.uptoBulk d := by
  obtain ⟨fuel, hf⟩ := h
  obtain ⟨a0, l0, c0, rfl⟩ := hv
  rcases open_slice Try.underlying32 hf with ⟨hcs, hx⟩ | ⟨a, len, cap, m, n, D, Pl, hcs, _, hl, hm, hmm, hx, hel⟩
  · simp [Value.cells] at hcs
    obtain ⟨rfl, rfl, rfl⟩ := hcs
    exact ⟨[], ⟨none, 0, rfl, fun j hj => by simp at hj⟩, by simp, by simp⟩
  · simp [Value.cells] at hcs
    obtain ⟨rfl, rfl, rfl⟩ := hcs
    have hlm : l0 ≤ m := by rw [hmm]; split <;> omega
    simp only [Prod.mk.injEq] at hx
    obtain ⟨rfl, _⟩ := hx
    have each : ∀ i, i < l0 → ∃ x : List UInt8, (∃ u, W.cell? (a.add i) = some u ∧ ReadsW W u x) ∧ x.length ≤ Rows.uptoBulk (D i) := by
      intro i hi
      obtain ⟨cs', h1, h2⟩ := hel i (by omega)
      rw [Try.cells40] at h1
      obtain ⟨_, hlen, hcell⟩ := World.cells?_some h1
      obtain ⟨u, l, rfl, h3, h4⟩ := one_bytes h2
      have q0 := hcell 0 (by simp)
      rw [add_add] at q0
      exact ⟨l, ⟨u, by simpa using q0, h3⟩, h4⟩
    obtain ⟨f, hf'⟩ := choose_lt each
    have hcnt := bulk_count ((List.range l0).map D)
    refine ⟨(List.range l0).map f, ⟨some a, c0, by simp, fun j hj => ?_⟩, ?_, ?_⟩
    · have hj' : j < l0 := by simpa using hj
      obtain ⟨u, hu, hr⟩ := (hf' j hj').1
      obtain ⟨u0, hu0, _⟩ := (hf' 0 (by omega)).1
      have hsp : a.spot = none := by
        have := World.cell?_spot hu0
        simpa [Addr.add] using this
      obtain ⟨b, off, sp⟩ := a
      simp only at hsp
      subst hsp
      refine ⟨b, off, u, rfl, ?_, ?_, ?_⟩
      · have := World.block_lt_of_cell? W _ hu0
        simpa [Addr.add] using this
      · rw [Addr.add_lit] at hu
        exact hu
      · simpa using hr
    · simp only [Rows.uptoBulk]
      simp at hcnt ⊢
      omega
    · intro x hx
      obtain ⟨i, hi, rfl⟩ := List.mem_map.1 hx
      have h1 := (hf' i (List.mem_range.1 hi)).2
      have h2 := bulk_mem (d := D i) (ds := (List.range l0).map D) (List.mem_map_of_mem hi)
      simp only [Rows.uptoBulk]
      omega
end Go.Proofs.Ytagdpfghooogfaa

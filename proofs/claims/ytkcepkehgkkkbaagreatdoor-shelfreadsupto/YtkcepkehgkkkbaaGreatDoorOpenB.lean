import Derived.Test.YtkcepkehgkkkbaaGreatDoorJ16
import Derived.Test.YtkcepkehgkkkbaaGreatDoorOpenO
namespace Go.Proofs.YtkcepkehgkkkbaaGreatDoor
open Go.ChangeShapes Go.WideShapes Go.ChangeAt Go.RowKit Go.Deep Go.Joins
set_option linter.unusedVariables false

theorem bulk_lits {H : Type} (k : IntKind) (zs : List Int) : Rows.uptoBulkAll (lits (H := H) k zs) = zs.length := by
  induction zs with
  | nil => rfl
  | cons z r ih =>
    simp only [lits, List.map_cons, Rows.uptoBulkAll, Rows.uptoBulk, List.length_cons] at ih ⊢
    omega

theorem u8_wf {n : Int} (h : (Lit.int .u8 n).wf = true) : 0 ≤ n ∧ n < 256 := by
  have : 0 ≤ n ∧ n ≤ 255 := by simpa [Lit.wf, IntKind.min, IntKind.max, IntKind.signed, IntKind.bits] using h
  omega

/-- Bytes that came in. -/
theorem open_bytes {H : Type} {enc : TypeId × Value → H} {W : World} {v : Value} {d : DataW H} {p : List MemPlace} (h : DataW.Trod enc Tryz.prog W 0 (fun _ => true) true 22 v d p) (hv : ∃ a l c, v = .slice a l c) :
    ∃ l, ReadsW W v l ∧ l.length ≤ Rows.uptoBulk d ∧ (l = [] ∨ ∃ elems spare, d = .slice elems spare ∧ elems.length = l.length) := by
  obtain ⟨fuel, hf⟩ := h
  obtain ⟨a0, l0, c0, rfl⟩ := hv
  rcases open_ints Tryz.underlying22 Tryz.underlying5 Tryz.cells5 hf with ⟨hcs, hx⟩ | ⟨a, len, cap, zs, hcs, _, hl, hm, hz, hx, hcell, hwz⟩
  · simp [Value.cells] at hcs
    obtain ⟨rfl, rfl, rfl⟩ := hcs
    exact ⟨[], Or.inl (Reads.nil _), by simp, Or.inl rfl⟩
  · simp [Value.cells] at hcs
    obtain ⟨rfl, rfl, rfl⟩ := hcs
    simp only [if_true] at hz
    simp only [Prod.mk.injEq] at hx
    obtain ⟨rfl, _⟩ := hx
    have hlz : ((zs.take l0).map fun z => UInt8.ofNat z.toNat).length = l0 := by simp; omega
    refine ⟨(zs.take l0).map fun z => UInt8.ofNat z.toNat, ?_, ?_, Or.inr ⟨_, _, rfl, by rw [hlz]; simp [lits]; omega⟩⟩
    · by_cases h0 : l0 = 0
      · subst h0
        exact Or.inr ⟨by simp, a, c0, rfl⟩
      · left
        have hc0 := hcell 0 (by omega)
        have hsp : a.spot = none := by
          have := World.cell?_spot hc0
          simpa [Addr.add] using this
        obtain ⟨b, off, sp⟩ := a
        simp only at hsp
        subst hsp
        refine ⟨_, c0, by rw [hlz], by rw [hlz]; exact hl, Or.inr ⟨b, off, rfl, ?_, fun j u hu => ?_⟩⟩
        · have := World.block_lt_of_cell? W _ hc0
          simpa [Addr.add] using this
        · have hj : j < l0 := by
            have := (List.getElem?_eq_some_iff.1 hu).1
            rw [cellsB_length, hlz] at this
            exact this
          have hjz : j < zs.length := by omega
          have hc := hcell j hjz
          rw [Addr.add_lit] at hc
          rw [hc, ← hu]
          have hw := u8_wf (hwz zs[j] (List.getElem_mem hjz))
          have e : ((UInt8.ofNat zs[j].toNat).toNat : Int) = zs[j] := by
            rw [UInt8.toNat_ofNat']
            omega
          simp only [cellsB, List.getElem?_map, List.getElem?_take, hj, if_true, List.getElem?_eq_getElem hjz, Option.map_some, List.getD, Option.getD_some, e]
    · rw [hlz]
      have h1 := bulk_lits (H := H) .u8 (zs.take l0)
      simp only [Rows.uptoBulk, h1, List.length_take]
      omega

/-- What the form's reach says of bytes that came in. -/
theorem sized_bytes {H : Type} {ts : List TypeId} {ds : List (DataW H)} (h : (DataW.weightsEach Tryz.prog ts ds).all (· ≤ reachBytes) = true) {j : Nat} {d : DataW H} {l : List UInt8} (ht : ts[j]? = some 22) (hd : ds[j]? = some d) (hl : l = [] ∨ ∃ elems spare, d = .slice elems spare ∧ elems.length = l.length) : l.length ≤ 140737488351232 := by
  rcases hl with rfl | ⟨elems, spare, rfl, e⟩
  · simp
  · have := sized_slice h ht hd Tryz.underlying22
    rw [Tryz.bytes5] at this
    have hr : reachBytes = 140737488351232 := by decide
    omega

end Go.Proofs.YtkcepkehgkkkbaaGreatDoor

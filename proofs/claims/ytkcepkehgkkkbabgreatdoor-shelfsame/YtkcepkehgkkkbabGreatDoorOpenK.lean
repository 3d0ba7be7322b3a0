import Derived.Test.YtkcepkehgkkkbabGreatDoorJ29
import Derived.Test.YtkcepkehgkkkbabGreatDoorOpenO
import Derived.Test.YtkcepkehgkkkbabGreatDoorLaid
namespace Go.Proofs.YtkcepkehgkkkbabGreatDoor
open Go.ChangeShapes Go.WideShapes Go.ChangeAt Go.RowKit Go.Deep Go.Joins
set_option linter.unusedVariables false

theorem Tryz.bytes47 : Tryz.prog.bytesOf 47 = 56 := by kernel_rfl

def Ov.cells (e : Ov) : List Value := [.int .i64 e.k, .string e.nm, .string e.tx, .int .i64 e.n, .int .i64 e.m]
set_option maxRecDepth 100000 in
/-- A list of ops that came in. -/
theorem open_ops {H : Type} {enc : TypeId × Value → H} {W : World} {v : Value} {d : DataW H} {p : List MemPlace} (h : DataW.Trod enc Tryz.prog W 0 (fun _ => true) true 23 v d p) (hv : ∃ a l c, v = .slice a l c) :
    ∃ l, OpsAt W v l ∧ (l = [] ∨ ∃ elems spare, d = .slice elems spare ∧ elems.length = l.length) := by
  obtain ⟨fuel, hf⟩ := h
  obtain ⟨a0, l0, c0, rfl⟩ := hv
  rcases open_slice Tryz.underlying23 hf with ⟨hcs, hx⟩ | ⟨a, len, cap, m, n, D, Pl, hcs, _, hl, hm, hmm, hx, hel⟩
  · simp [Value.cells] at hcs
    obtain ⟨rfl, rfl, rfl⟩ := hcs
    exact ⟨[], ⟨none, 0, rfl, Or.inl rfl⟩, Or.inl rfl⟩
  · simp [Value.cells] at hcs
    obtain ⟨rfl, rfl, rfl⟩ := hcs
    have hlm : l0 ≤ m := by rw [hmm]; split <;> omega
    simp only [Prod.mk.injEq] at hx
    obtain ⟨rfl, _⟩ := hx
    have each : ∀ i, i < l0 → ∃ e : Ov, ∀ j u, e.cells[j]? = some u → W.cell? (a.add (i * 5 + j)) = some u := by
      intro i hi
      obtain ⟨cs', h1, h2⟩ := hel i (by omega)
      rw [Tryz.cells47] at h1
      obtain ⟨_, hlen, hcell⟩ := World.cells?_some h1
      obtain ⟨k, nm, tx, n', m', rfl, _, ok⟩ := op_cells h2
      refine ⟨⟨k, nm, tx, n', m'⟩, fun j u hu => ?_⟩
      have hj : j < 5 := by
        have := (List.getElem?_eq_some_iff.1 hu).1
        simpa [Ov.cells] using this
      have q := hcell j (by omega)
      rw [add_add] at q
      rw [q, ← hu]
      rfl
    haveI : Inhabited Ov := ⟨⟨0, ⟨#[]⟩, ⟨#[]⟩, 0, 0⟩⟩
    obtain ⟨f, hf'⟩ := choose_lt each
    refine ⟨(List.range l0).map f, ⟨some a, c0, by simp, ?_⟩, Or.inr ⟨_, _, rfl, by simp⟩⟩
    by_cases h0 : l0 = 0
    · subst h0; exact Or.inl rfl
    · right
      have h00 := hf' 0 (by omega) 0 _ rfl
      have hsp : a.spot = none := by
        have := World.cell?_spot h00
        simpa [Addr.add] using this
      obtain ⟨b, off, sp⟩ := a
      simp only at hsp
      subst hsp
      refine ⟨b, off, rfl, ?_, fun i hi => ?_⟩
      · have := World.block_lt_of_cell? W _ h00
        simpa [Addr.add] using this
      · have hi' : i < l0 := by simpa using hi
        have hcell := hf' i hi'
        simp only [Addr.add_lit] at hcell
        have eg : ((List.range l0).map f)[i] = f i := by simp
        rw [eg]
        refine ⟨?_, ?_, ?_, ?_, ?_⟩
        · exact hcell 0 _ rfl
        · have := hcell 1 _ rfl; rw [← Nat.add_assoc] at this; exact this
        · have := hcell 2 _ rfl; rw [← Nat.add_assoc] at this; exact this
        · have := hcell 3 _ rfl; rw [← Nat.add_assoc] at this; exact this
        · have := hcell 4 _ rfl; rw [← Nat.add_assoc] at this; exact this
theorem sized_ops {H : Type} {ts : List TypeId} {ds : List (DataW H)} (h : (DataW.weightsEach Tryz.prog ts ds).all (· ≤ reachBytes) = true) {j : Nat} {d : DataW H} {l : List Ov} (ht : ts[j]? = some 23) (hd : ds[j]? = some d) (hl : l = [] ∨ ∃ elems spare, d = .slice elems spare ∧ elems.length = l.length) : l.length ≤ 4398046511104 := by
  rcases hl with rfl | ⟨elems, spare, rfl, e⟩
  · simp
  · have := sized_slice h ht hd Tryz.underlying23
    rw [Tryz.bytes47] at this
    have hr : reachBytes = 140737488351232 := by decide
    omega
end Go.Proofs.YtkcepkehgkkkbabGreatDoor

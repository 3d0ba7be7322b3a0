import Derived.Test.YtdhkdniddjnigaaGreatDoorD3
import Derived.Lib.OthersKept
import Derived.WalkSmall
namespace Go.Proofs.YtdhkdniddjnigaaGreatDoor
open Go.RowKit Go.Lib
set_option linter.unusedVariables false

/-- A kind's word and its letters. -/
def nmN (k : Nat) : List UInt8 := (wfN.getD k ([], [])).1
def ltN (k : Nat) : List UInt8 := (wfN.getD k ([], [])).2
/-- The table of the kinds' forms. -/
def Wf (w : World) : Prop := 5 < w.heap.size ∧ ∀ k, k < 9 → w.cell? ⟨5, k * 2, none⟩ = some (.string ⟨(nmN k).toArray⟩) ∧ w.cell? ⟨5, k * 2 + 1, none⟩ = some (.string ⟨(ltN k).toArray⟩)
theorem Wf.later {w w' : World} (h : Wf w) (hb : Below w.heap.size w w') : Wf w' := ⟨Nat.lt_of_lt_of_le h.1 hb.size, fun k hk => ⟨cell_under hb h.1 (h.2 k hk).1, cell_under hb h.1 (h.2 k hk).2⟩⟩
theorem ltN_in {k : Nat} {x : UInt8} (h : x ∈ ltN k) : x.toNat = 78 ∨ x.toNat = 84 ∨ x.toNat = 75 ∨ x.toNat = 77 := by
  have key : ∀ p ∈ wfN, ∀ x ∈ p.2, x.toNat = 78 ∨ x.toNat = 84 ∨ x.toNat = 75 ∨ x.toNat = 77 := by decide
  unfold ltN at h
  by_cases hk : k < wfN.length
  · rw [List.getD, List.getElem?_eq_getElem hk] at h
    exact key _ (List.getElem_mem hk) x h
  · rw [List.getD, List.getElem?_eq_none (by omega)] at h
    cases h
theorem ltN_len (k : Nat) : (ltN k).length ≤ 3 := by
  have key : ∀ p ∈ wfN, p.2.length ≤ 3 := by decide
  unfold ltN
  by_cases hk : k < wfN.length
  · rw [List.getD, List.getElem?_eq_getElem hk]
    exact key _ (List.getElem_mem hk)
  · rw [List.getD, List.getElem?_eq_none (by omega)]
    simp
/-- A field's word. -/
def fieldW (nm tx : List UInt8) (n m : Nat) (c : Nat) : List UInt8 := if c = 78 then nm else if c = 84 then tx else if c = 75 then Lib.decDigits n else Lib.decDigits m
def flds (nm tx : List UInt8) (n m : Nat) (lt : List UInt8) : Ws := lt.map fun c => fieldW nm tx n m c.toNat
theorem flds_snoc (nm tx : List UInt8) (n m : Nat) {lt : List UInt8} {p : Nat} (h : p < lt.length) : flds nm tx n m (lt.take (p + 1)) = flds nm tx n m (lt.take p) ++ [fieldW nm tx n m (lt.getD p 0).toNat] := by
  rw [take_snocB h]
  simp [flds]

/-- A string's reader on its way. -/
def itC (g : Nat) (s : ByteArray) (p : Nat) : Comp := ⟨fun w => w.heap[g]? = some (.stringIter s p), [g]⟩
theorem itC_good (g : Nat) (s : ByteArray) (p : Nat) : (itC g s p).Good := fun w w' h _ hb => (hb g (by simp [itC])).trans h
theorem iter_below (w : World) (s : ByteArray) : Below w.heap.size w (w.iter s 0) := ba w _
theorem All.addIt {cs : List Comp} {w : World} (h : All cs w) (s : ByteArray) : All (itC w.heap.size s 0 :: cs) (w.iter s 0) := by
  refine h.add (Fr.below (iter_below w s)) (itC_good _ _ _) (World.iter_heap w s 0) (fun k hk => ?_)
  have : k = w.heap.size := by simpa [itC] using hk
  subst this
  exact ⟨Nat.le_refl _, by simp [World.iter]⟩
theorem All.setIt {g : Nat} {s : ByteArray} {p : Nat} {cs : List Comp} {w : World} (h : All (itC g s p :: cs) w) (q : Nat) : All (itC g s q :: cs) (w.iterAt g s q) := by
  have hg : w.heap[g]? = some (.stringIter s p) := h.1.2.1
  refine h.turn ⟨rfl, rfl, rfl, by simp [World.iterAt], fun k hk hF => ?_⟩ (itC_good _ _ _) (iterAt_heap w g s p q hg) (fun k hk => Or.inl hk) (fun k hk => ?_)
  · have hne : g ≠ k := fun e => hF (by simp [itC, e])
    simp only [World.iterAt]
    rw [Array.getElem?_setIfInBounds_ne hne]
  · have : k = g := by simpa [itC] using hk
    subst this
    simpa [World.iterAt] using h.1.2.2 k (by simp [itC])
theorem next_at {w : World} {g : Nat} {lt : List UInt8} {p : Nat} {cs : List Comp} (h : All (itC g ⟨lt.toArray⟩ p :: cs) w) (hp : p < lt.length) (ha : (lt.getD p 0).toNat < 128) :
    (Instr.next (.pointer (some ⟨g, 0, none⟩)) true 0).run Tryz.prog w = .ok (.tuple #[.bool true, .int .i64 (p : Int), .int .i32 ((lt.getD p 0).toNat : Int)]) (w.iterAt g ⟨lt.toArray⟩ (p + 1)) := by
  have hs : (⟨lt.toArray⟩ : ByteArray).size = lt.length := by simp [ByteArray.size]
  have e : (⟨lt.toArray⟩ : ByteArray)[p]'(by rw [hs]; exact hp) = lt.getD p 0 := by
    show ByteArray.get _ _ _ = _
    simp [ByteArray.get, List.getD, hp]
  have := run_next_ascii_at (P := Tryz.prog) w g ⟨lt.toArray⟩ p 0 h.1.2.1 (by rw [hs]; exact hp) (by rw [e]; exact ha)
  rw [e] at this
  exact this
theorem next_end {w : World} {g : Nat} {lt : List UInt8} {p : Nat} {cs : List Comp} (h : All (itC g ⟨lt.toArray⟩ p :: cs) w) (hp : ¬ p < lt.length) :
    (Instr.next (.pointer (some ⟨g, 0, none⟩)) true 0).run Tryz.prog w = .ok (.tuple #[.bool false]) w :=
  run_next_end_at (P := Tryz.prog) w g ⟨lt.toArray⟩ p 0 h.1.2.1 (by simpa [ByteArray.size] using hp)

end Go.Proofs.YtdhkdniddjnigaaGreatDoor

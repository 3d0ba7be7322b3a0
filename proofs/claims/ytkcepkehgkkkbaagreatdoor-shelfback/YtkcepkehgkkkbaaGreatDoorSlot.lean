import Derived.Test.YtkcepkehgkkkbaaGreatDoorWr
namespace Go.Proofs.YtkcepkehgkkkbaaGreatDoor
open Go.RowKit
set_option linter.unusedVariables false

theorem cellsG_at {gs : List (List UInt8 × Int)} {k : Nat} (hk : k < gs.length) : (cellsG gs)[k * 2]? = some (encStr gs[k].1) ∧ (cellsG gs)[k * 2 + 1]? = some (.int .i64 gs[k].2) := by
  induction gs generalizing k with
  | nil => simp at hk
  | cons g gs ih =>
    cases k with
    | zero => simp [cellsG]
    | succ k =>
      have := ih (k := k) (by simpa using hk)
      have e : (k + 1) * 2 = k * 2 + 1 + 1 := by omega
      rw [e]
      simpa [cellsG] using this
theorem cellsG_len (gs : List (List UInt8 × Int)) : (cellsG gs).length = gs.length * 2 := by
  induction gs with
  | nil => rfl
  | cons g gs ih => simp [cellsG] at ih ⊢; omega
theorem rowG_at {w : World} {ao : Option Addr} {n c : Nat} {gs : List (List UInt8 × Int)} (h : w.ownsRow 0 164 2 (.slice ao n c) gs.length (cellsG gs)) {k : Nat} (hk : k < gs.length) : ∃ g, ao = some ⟨g, 0, none⟩ ∧ g < w.heap.size ∧ w.cell? ⟨g, k * 2, none⟩ = some (encStr gs[k].1) ∧ w.cell? ⟨g, k * 2 + 1, none⟩ = some (.int .i64 gs[k].2) := by
  rcases h.2 with ⟨e, e2⟩ | ⟨g, cap, cur, e, _, hg, hn, hm, hcs, ht⟩
  · omega
  · simp only [Value.slice.injEq] at e
    obtain ⟨h1, h2⟩ := cellsG_at hk
    rw [← ht, List.getElem?_take, if_pos (by omega)] at h1
    rw [← ht, List.getElem?_take, if_pos (by omega)] at h2
    refine ⟨g, e.1, (Array.getElem?_eq_some_iff.1 hg).1, ?_, ?_⟩
    · rw [cell_at hg, ← Array.getElem?_toList]; exact h1
    · rw [cell_at hg, ← Array.getElem?_toList]; exact h2

/-- Groups as bytes. -/
def groupsB (gs : List (List UInt8 × Int)) : List UInt8 := gs.flatMap fun g => (enc 9 g.1.length ++ g.1) ++ enc 9 g.2.toNat
theorem groupsB_take {gs : List (List UInt8 × Int)} {k : Nat} (hk : k < gs.length) : groupsB (gs.take (k + 1)) = groupsB (gs.take k) ++ ((enc 9 gs[k].1.length ++ gs[k].1) ++ enc 9 gs[k].2.toNat) := by
  rw [List.take_succ_eq_append_getElem hk, groupsB, List.flatMap_append]; simp [groupsB]
theorem groupsB_len {gs : List (List UInt8 × Int)} (hb : ∀ g ∈ gs, g.1.length ≤ 1048576) : (groupsB gs).length ≤ gs.length * 1048600 := by
  induction gs with
  | nil => simp [groupsB]
  | cons g gs ih =>
    have h1 := ih (fun x hx => hb x (by simp [hx]))
    have h2 := hb g (by simp)
    have h3 := enc_len 9 g.1.length
    have h4 := enc_len 9 g.2.toNat
    simp only [groupsB, List.flatMap_cons, List.length_append, List.length_cons] at h1 ⊢
    omega

/-- A slot's bytes. -/
def slotB (nm : ByteArray) (first : Nat) (items : List ByteArray) (gs : List (List UInt8 × Int)) : List UInt8 :=
  (enc 9 nm.size ++ nm.data.toList) ++ (enc 9 first ++ (itemsB items ++ (enc 9 gs.length ++ groupsB gs)))

theorem txts_of {e : TypeId} {ao : Option Addr} {n c : Nat} {l : List ByteArray} {cs : List Comp} {w : World} (h : All cs w) (hm : ownC 9 (.slice ao n c) (txtV l) ∈ cs) : Txts w (.slice ao n c) l := by
  have hrow : w.ownsRow 0 9 1 (.slice ao n c) (txtV l).length (txtV l) := (h.mem hm).2.1
  obtain ⟨h1, h2⟩ := owns_len hrow
  rw [List.length_map] at h1 h2
  subst h1
  refine ⟨ao, c, rfl, h2, ?_⟩
  cases l with
  | nil => exact Or.inl rfl
  | cons t l =>
    right
    obtain ⟨g, ea, _, _⟩ := owns_at hrow (k := 0) (u := .string t) rfl
    refine ⟨g, 0, ea, (h.mem hm).2.2 g (by rw [ea]; simp [ownC, Value.ownBlock]), fun j hj => ?_⟩
    obtain ⟨g', ea', hc, _⟩ := owns_at hrow (k := j) (u := .string (t :: l)[j]) (by rw [List.getElem?_map, List.getElem?_eq_getElem hj]; rfl)
    rw [ea] at ea'
    cases ea'
    rw [Nat.zero_add]
    exact hc
end Go.Proofs.YtkcepkehgkkkbaaGreatDoor

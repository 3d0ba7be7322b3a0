import Derived.Test.YtdhkdniddjnigaaGreatDoorBas
import Derived.Test.YtdhkdniddjnigaaGreatDoorSLd
import Derived.Lib.IndexMore
import Derived.Lib.IndexLaws
namespace Go.Proofs.YtdhkdniddjnigaaGreatDoor
open Go.RowKit
set_option linter.unusedVariables false

/-- Where a text has its first line feed. -/
def cutN : List UInt8 → Option Nat
  | [] => none
  | b :: l => if b = 10 then some 0 else (cutN l).map (· + 1)
theorem cutN_some {l : List UInt8} {i : Nat} (h : cutN l = some i) : i < l.length ∧ (10 : UInt8) ∉ l.take i ∧ l.drop i = 10 :: l.drop (i + 1) := by
  induction l generalizing i with
  | nil => simp [cutN] at h
  | cons b l ih =>
    unfold cutN at h
    split at h
    · rename_i hb
      simp only [Option.some.injEq] at h
      subst h
      subst hb
      simp
    · rename_i hb
      cases hc : cutN l with
      | none => rw [hc] at h; simp at h
      | some j =>
        rw [hc] at h
        simp only [Option.map_some, Option.some.injEq] at h
        subst h
        obtain ⟨h1, h2, h3⟩ := ih hc
        refine ⟨by simp only [List.length_cons]; omega, ?_, ?_⟩
        · rw [List.take_succ_cons, List.mem_cons]
          rintro (e | e)
          · exact hb e.symm
          · exact h2 e
        · rw [List.drop_succ_cons, List.drop_succ_cons]; exact h3
theorem cutN_none {l : List UInt8} (h : cutN l = none) : (10 : UInt8) ∉ l := by
  induction l with
  | nil => simp
  | cons b l ih =>
    unfold cutN at h
    split at h
    · simp at h
    · rename_i hb
      rw [List.mem_cons]
      rintro (e | e)
      · exact hb e.symm
      · cases hc : cutN l with
        | none => exact ih hc e
        | some j => rw [hc] at h; simp at h
theorem index_ten (l : List UInt8) : Lib.index l [10] = match cutN l with
    | some i => (i : Int)
    | none => -1 := by
  cases hc : cutN l with
  | some i =>
    obtain ⟨h1, h2, h3⟩ := cutN_some hc
    refine Lib.index_first (by omega) ?_ (fun j hj => ?_)
    · unfold Lib.occAt; rw [h3]; rfl
    · unfold Lib.occAt
      rw [List.drop_eq_getElem_cons (by omega)]
      have : l[j]'(by omega) ≠ 10 := fun e => h2 (by rw [← e]; exact List.mem_take_iff_getElem.2 ⟨j, by omega, rfl⟩)
      simp only [List.isPrefixOf, Bool.and_eq_false_iff, beq_eq_false_iff_ne]
      exact Or.inl (fun e => this e.symm)
  | none =>
    have h := cutN_none hc
    refine Lib.index_none (fun j hj => ?_)
    unfold Lib.occAt
    by_cases hj2 : j < l.length
    · rw [List.drop_eq_getElem_cons hj2]
      have : l[j] ≠ 10 := fun e => h (by rw [← e]; exact List.getElem_mem hj2)
      simp only [List.isPrefixOf, Bool.and_eq_false_iff, beq_eq_false_iff_ne]
      exact Or.inl (fun e => this e.symm)
    · rw [List.drop_eq_nil_of_le (by omega)]; rfl
/-- What bytes.Cut tells of a text at its first line feed. -/
def cutP (l : List UInt8) : List UInt8 := match cutN l with
  | some i => l.take i
  | none => l
def cutR (l : List UInt8) : List UInt8 := match cutN l with
  | some i => l.drop (i + 1)
  | none => []
def cutF (l : List UInt8) : Bool := (cutN l).isSome

theorem Reads.up {w : World} {ao : Option Addr} {n c : Nat} {l : List UInt8} (h : Reads w (.slice ao n c) l) {i : Nat} (hi : i ≤ l.length) : Reads w (.slice ao i c) (l.take i) := by
  obtain ⟨ao', c', e, hc, hcase⟩ := h
  simp only [Value.slice.injEq] at e
  obtain ⟨rfl, rfl, rfl⟩ := e
  refine ⟨ao, c, by rw [List.length_take, Nat.min_eq_left hi], by rw [List.length_take]; omega, ?_⟩
  rcases hcase with ⟨rfl, h1⟩ | ⟨g, o, rfl, hg, hcell⟩
  · exact Or.inl ⟨by simp, h1⟩
  · refine Or.inr ⟨g, o, rfl, hg, fun j u hu => hcell j u ?_⟩
    unfold cellsB at hu ⊢
    rw [List.map_take, List.getElem?_take] at hu
    split at hu
    · exact hu
    · simp at hu
theorem Reads.from {w : World} {ao : Option Addr} {n c : Nat} {l : List UInt8} (h : Reads w (.slice ao n c) l) {j : Nat} (hj : j ≤ l.length) : Reads w (Lib.fromV ao n c j) (l.drop j) := by
  obtain ⟨ao', c', e, hc, hcase⟩ := h
  simp only [Value.slice.injEq] at e
  obtain ⟨rfl, rfl, rfl⟩ := e
  unfold Lib.fromV
  refine ⟨_, c - j, by rw [List.length_drop], by rw [List.length_drop]; omega, ?_⟩
  rcases hcase with ⟨rfl, h1⟩ | ⟨g, o, rfl, hg, hcell⟩
  · refine Or.inl ⟨by simp, fun e => ?_⟩
    have hj0 : j = 0 := by simpa using hj
    subst hj0
    by_cases h0 : c = 0
    · omega
    · rw [if_neg (by omega)] at e
      cases ao with
      | none => have := h1 rfl; omega
      | some a => simp at e
  · by_cases h0 : c = j
    · exact Or.inl ⟨List.drop_eq_nil_of_le (by omega), fun e => by rw [if_pos h0] at e; simp at e⟩
    · refine Or.inr ⟨g, o + j, by rw [if_neg h0, Option.map_some, Addr.add_lit], hg, fun i u hu => ?_⟩
      unfold cellsB at hu hcell
      rw [List.map_drop, List.getElem?_drop] at hu
      have := hcell (j + i) u hu
      rw [← Nat.add_assoc] at this
      exact this
/-- bytes.Cut at a line feed. -/
theorem cut_any {v : Value} {l : List UInt8} {w : World} {b c2 : Nat} {m : Int} (h : Reads w v l) (hl : l.length < 4294967281) (hs : w.cell? ⟨b, 0, none⟩ = some (.int .u8 10)) (hm : w.cell? ⟨0, 0, none⟩ = some (.int .i64 m)) :
    Calls Tryz.prog 31 #[v, .slice (some ⟨b, 0, none⟩) 1 c2] w fun e w' => ∃ p r, e = .returned (.tuple #[p, r, .bool (cutF l)]) ∧ (∀ W, Reads W v l → Reads W p (cutP l) ∧ Reads W r (cutR l)) ∧ ∃ q, w' = w.drewN q := by
  obtain ⟨ao, c, rfl⟩ := h.form
  have hB : Lib.bytesOf (l.map fun x => (x.toNat : Int)) = l := by
    unfold Lib.bytesOf
    rw [List.map_map]
    conv => rhs; rw [← List.map_id l]
    exact List.map_congr_left fun x _ => by simp
  have key := Any.bytes_Cut_all Tryz.laysT4 ao (some ⟨b, 0, none⟩) l.length c 1 c2 (l.map fun x => (x.toNat : Int)) [10] m w (by simp) rfl (fun x hx => by obtain ⟨y, _, rfl⟩ := List.mem_map.1 hx; have := y.toNat_lt; omega) (by simp) ?_ ?_ ?_ ?_ hl (by omega) hm
  · change Calls Tryz.prog 31 _ _ _ at key
    refine key.mono ?_
    rintro e w' ⟨rfl, q, rfl⟩
    rw [hB, show Lib.bytesOf [10] = [10] from rfl, index_ten]
    cases hc : cutN l with
    | some i =>
      obtain ⟨h1, h2, h3⟩ := cutN_some hc
      unfold Lib.cutV
      rw [if_pos (by show (0 : Int) ≤ (i : Int); omega)]
      refine ⟨_, _, by unfold cutF; rw [hc]; rfl, fun W hW => ⟨?_, ?_⟩, q, rfl⟩
      · unfold cutP; rw [hc]; exact hW.up (i := i) (by omega)
      · unfold cutR; rw [hc]; exact hW.from (j := i + 1) (by omega)
    | none =>
      unfold Lib.cutV
      rw [if_neg (by show ¬ (0 : Int) ≤ -1; omega)]
      refine ⟨_, _, by unfold cutF; rw [hc]; rfl, fun W hW => ⟨?_, ?_⟩, q, rfl⟩
      · unfold cutP; rw [hc]; exact hW
      · unfold cutR; rw [hc]; exact Reads.nil W
  · obtain ⟨ao', c', e, hcc, hcase⟩ := h
    simp only [Value.slice.injEq] at e
    obtain ⟨rfl, -, rfl⟩ := e
    rcases hcase with ⟨rfl, h1⟩ | ⟨g, o, rfl, hg, hcell⟩
    · exact Lib.BytesIn.nil w ao _
    · refine Lib.BytesIn.of_cells (a := ⟨g, o, none⟩) (fun i hi => ?_)
      rw [Addr.add_lit]
      refine hcell i _ ?_
      simp [cellsB, List.getD, hi]
  · refine Lib.BytesIn.of_cells (a := ⟨b, 0, none⟩) (fun i hi => ?_)
    obtain rfl : i = 0 := by omega
    exact hs
  · intro e
    subst e
    obtain ⟨ao', c', e, hcc, hcase⟩ := h
    simp only [Value.slice.injEq] at e
    obtain ⟨rfl, -, rfl⟩ := e
    rcases hcase with ⟨rfl, h1⟩ | ⟨g, o, e, _⟩
    · exact h1 rfl
    · cases e
  · obtain ⟨ao', c', e, hcc, hcase⟩ := h
    simp only [Value.slice.injEq] at e
    omega
end Go.Proofs.YtdhkdniddjnigaaGreatDoor

import Derived.Test.YtpfpamkbahgkpaaCntP
namespace Go.Proofs.Ytpfpamkbahgkpaa
open Go.RowKit
set_option linter.unusedVariables false

/-- Each packet has the bytes with which it was laid in, but for one. -/
structure Trn (A : AB) (F : List (List UInt8)) : Prop where
  len : (F.length : Int) = A.l
  near : ∀ p ∈ A.ps, ∃ (N : Nat) (l : List UInt8), p.n = (N : Int) + 1 ∧ F[N]? = some l ∧ Near p.bs l p.u

theorem Near.self (l : List UInt8) : Near l l 0 := ⟨rfl, by omega, by omega, fun _ _ _ => rfl⟩
theorem Trn.new (r : Int) : Trn (AB.mk r 0 []) [] := ⟨by simp, by simp⟩
theorem Trn.lay {A : AB} {F : List (List UInt8)} (h : Trn A F) (p : AP) (l : List UInt8) (hp : Near p.bs l p.u) : Trn (A.lay p) (F ++ [l]) := by
  have hl := h.len
  refine ⟨by simp only [AB.lay, List.length_append, List.length_singleton]; omega, fun q hq => ?_⟩
  simp only [AB.lay, List.mem_append, List.mem_singleton] at hq
  rcases hq with hq | rfl
  · obtain ⟨N, l', e1, e2, e3⟩ := h.near q hq
    exact ⟨N, l', e1, by rw [List.getElem?_append_left (List.getElem?_eq_some_iff.1 e2).1]; exact e2, e3⟩
  · exact ⟨F.length, l, by simp only; omega, by simp, hp⟩
theorem Near.flip {p : AP} {l : List UInt8} {x y : Int} (h : Near p.bs l p.u) (hx : hasB x p.bs.length = true) (hu : p.u = 0 ∨ p.u = x + 1) : Near (p.flip x y).bs l (p.flip x y).u := by
  obtain ⟨h1, h2, h3, h4⟩ := h
  have hx' : 0 ≤ x ∧ x < p.bs.length := of_decide_eq_true hx
  refine ⟨by simp only [AP.flip, List.length_set]; exact h1, by simp only [AP.flip]; omega, by simp only [AP.flip]; omega, fun j hj hne => ?_⟩
  simp only [AP.flip] at hne ⊢
  rw [List.getD_eq_getElem?_getD, List.getElem?_set_ne (by omega), ← List.getD_eq_getElem?_getD]
  exact h4 j hj (by omega)
theorem Trn.one_add {A : AB} {F : List (List UInt8)} (h : Trn A F) {x : Op1} (hk : x.k = 0) (hE : A.oneE x = 0) : Trn (A.one x) (F ++ [x.d]) := by
  have e1 : A.oneE x = A.addE x.a x.b := by simp [AB.oneE, hk]
  have e2 : A.one x = A.add x.a x.b x.d := by simp [AB.one, hk]
  rw [e1] at hE
  rw [e2, AB.add, if_pos hE]
  exact h.lay _ _ (Near.self _)
/-- Of what a Dup is a copy. -/
theorem Trn.one_dup {A : AB} {F : List (List UInt8)} (h : Trn A F) {x : Op1} (hk : x.k = 2) (hE : A.oneE x = 0) : ∃ (a N : Nat) (p : AP) (l : List UInt8), x.a = (a : Int) ∧ A.ps[a]? = some p ∧ p.n = (N : Int) + 1 ∧ F[N]? = some l ∧ Trn (A.one x) (F ++ [l]) := by
  have e1 : A.oneE x = A.dupE x.a := by simp [AB.oneE, hk]
  have e2 : A.one x = A.dup x.a := by simp [AB.one, hk]
  rw [e1] at hE
  obtain ⟨-, hh⟩ := AB.dupE_full hE
  obtain ⟨hm, hlt⟩ := AB.at_mem hh
  obtain ⟨N, l, e3, e4, e5⟩ := h.near _ (List.mem_of_getElem? hm)
  have h' : 0 ≤ x.a ∧ x.a < A.ps.length := of_decide_eq_true hh
  refine ⟨x.a.toNat, N, _, l, by omega, hm, e3, e4, ?_⟩
  rw [e2, AB.dup, if_pos hE]
  exact h.lay _ _ e5
theorem Trn.one_rest {A : AB} {F : List (List UInt8)} (h : Trn A F) {x : Op1} (hk : A.oneE x ≠ 0 ∨ (x.k ≠ 0 ∧ x.k ≠ 2)) : Trn (A.one x) F := by
  rcases hk with hk | ⟨h0, h2⟩
  · rw [AB.one_none hk]; exact h
  · by_cases h1 : x.k = 1
    · have e2 : A.one x = A.take x.a := by simp [AB.one, h1]
      rw [e2]
      unfold AB.take
      split
      · exact ⟨h.len, fun p hp => h.near p (List.mem_of_mem_eraseIdx hp)⟩
      · exact h
    · by_cases h3 : x.k = 3
      · have e2 : A.one x = A.flip x.a x.b x.y := by simp [AB.one, h3]
        rw [e2]
        unfold AB.flip
        split
        · rename_i hE
          obtain ⟨hh, hx, -, -, hu⟩ := AB.flipE_has hE
          obtain ⟨hm, hlt⟩ := AB.at_mem hh
          refine ⟨h.len, fun q hq => ?_⟩
          rcases List.mem_or_eq_of_mem_set hq with hq | rfl
          · exact h.near q hq
          · obtain ⟨N, l, e3, e4, e5⟩ := h.near _ (List.mem_of_getElem? hm)
            exact ⟨N, l, e3, e4, e5.flip hx hu⟩
        · exact h
      · by_cases h4 : x.k = 4
        · have e2 : A.one x = A.older := by simp [AB.one, h4]
          rw [e2]
          refine ⟨h.len, fun q hq => ?_⟩
          obtain ⟨p, hp, rfl⟩ := List.mem_map.1 hq
          exact h.near p hp
        · have e2 : A.one x = A := by simp [AB.one, h0, h1, h2, h3, h4]
          rw [e2]; exact h
end Go.Proofs.Ytpfpamkbahgkpaa

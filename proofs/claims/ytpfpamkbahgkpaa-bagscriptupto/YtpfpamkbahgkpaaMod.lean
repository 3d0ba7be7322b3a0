import Derived.Test.YtpfpamkbahgkpaaBg3
namespace Go.Proofs.Ytpfpamkbahgkpaa
open Go.RowKit
set_option linter.unusedVariables false

/-- What is seen of a packet. -/
structure AP where
  n : Int
  f : Int
  t : Int
  a : Int
  u : Int
  bs : List UInt8
  deriving DecidableEq
def Pk.ap (p : Pk) : AP := ⟨p.n, p.f, p.t, p.a, p.u, p.bs⟩
theorem Pk.ap_at (p : Pk) (H : Nat) : (p.at H).ap = p.ap := rfl
theorem Pk.ap_new (p : Pk) (k : Int) : (p.new k).ap = { p.ap with n := k, a := 0 } := rfl
/-- What is seen of a bag. -/
structure AB where
  r : Int
  l : Int
  ps : List AP
def Bg.ab (B : Bg) : AB := ⟨B.r, B.l, B.ps.map Pk.ap⟩
theorem Bg.ab_len (B : Bg) : B.ab.ps.length = B.ps.length := by simp [Bg.ab]

def AB.lay (A : AB) (p : AP) : AB := { A with l := A.l + 1, ps := A.ps ++ [{ p with n := A.l + 1, a := 0 }] }
theorem Bg.ab_lay (B : Bg) (p : Pk) (v : Value) : (B.lay p v).ab = B.ab.lay p.ap := by simp [Bg.ab, Bg.lay, AB.lay, Pk.ap_new]

/-- Add. -/
def AB.addE (A : AB) (f t : Int) : Int := if (endB f && endB t) = false then 151 else if fullB A.ps.length A.r = true then 155 else 0
def AB.add (A : AB) (f t : Int) (bs : List UInt8) : AB := if A.addE f t = 0 then A.lay ⟨0, f, t, 0, 0, bs⟩ else A
/-- Take. -/
def AB.takeE (A : AB) (k : Int) : Int := if hasB k A.ps.length = true then 0 else 152
def AB.take (A : AB) (k : Int) : AB := if A.takeE k = 0 then { A with ps := A.ps.eraseIdx k.toNat } else A
def AP.zero : AP := ⟨0, 0, 0, 0, 0, []⟩
def AB.at (A : AB) (k : Int) : AP := if hasB k A.ps.length = true then A.ps.getD k.toNat AP.zero else AP.zero
/-- Dup. -/
def AB.dupE (A : AB) (k : Int) : Int := if hasB k A.ps.length = false then 152 else if fullB A.ps.length A.r = true then 155 else 0
def AB.dup (A : AB) (k : Int) : AB := if A.dupE k = 0 then A.lay (A.at k) else A
/-- Flip. -/
def AB.flipE (A : AB) (k x y : Int) : Int :=
  if hasB k A.ps.length = false then 152
  else if hasB x (A.at k).bs.length = false then 153
  else if y < 1 ∨ 255 < y ∨ ((A.at k).u ≠ 0 ∧ (A.at k).u ≠ x + 1) then 154 else 0
def AP.flip (p : AP) (x y : Int) : AP := { p with u := x + 1, bs := p.bs.set x.toNat (p.bs.getD x.toNat 0 ^^^ UInt8.ofNat y.toNat) }
def AB.flip (A : AB) (k x y : Int) : AB := if A.flipE k x y = 0 then { A with ps := A.ps.set k.toNat ((A.at k).flip x y) } else A
/-- Older. -/
def AB.older (A : AB) : AB := { A with ps := A.ps.map fun p => { p with a := p.a + 1 } }

/-- How far a bag may have come in so many steps. -/
structure AB.Ok (A : AB) (k : Nat) : Prop where
  r1 : 1 ≤ A.r
  r2 : A.r ≤ 1024
  len : (A.ps.length : Int) ≤ A.r
  l0 : 0 ≤ A.l
  l1 : A.l ≤ k
  a0 : ∀ p ∈ A.ps, 0 ≤ p.a
  a1 : ∀ p ∈ A.ps, p.a ≤ k
theorem AB.Ok.small {A : AB} {k : Nat} (h : A.Ok k) : A.ps.length ≤ 1024 := by have := h.len; have := h.r2; omega
theorem AB.Ok.new {r : Int} (h1 : 1 ≤ r) (h2 : r ≤ 1024) : (AB.mk r 0 []).Ok 0 := ⟨h1, h2, by simp; omega, by simp, by simp, by simp, by simp⟩
theorem AB.Ok.more {A : AB} {k m : Nat} (h : A.Ok k) (hm : k ≤ m) : A.Ok m := ⟨h.r1, h.r2, h.len, h.l0, by have := h.l1; omega, h.a0, fun p hp => by have := h.a1 p hp; omega⟩
theorem AB.Ok.lay {A : AB} {k : Nat} (h : A.Ok k) (p : AP) (hf : fullB A.ps.length A.r = false) : (A.lay p).Ok (k + 1) := by
  have hf' : ¬ (A.ps.length : Int) = A.r := of_decide_eq_false hf
  have := h.len
  have := h.l0
  have := h.l1
  refine ⟨h.r1, h.r2, ?_, ?_, ?_, fun q hq => ?_, fun q hq => ?_⟩
  · simp only [AB.lay, List.length_append, List.length_singleton]; omega
  · simp only [AB.lay]; omega
  · simp only [AB.lay]; omega
  · simp only [AB.lay, List.mem_append, List.mem_singleton] at hq
    rcases hq with hq | rfl
    · exact h.a0 q hq
    · simp
  · simp only [AB.lay, List.mem_append, List.mem_singleton] at hq
    rcases hq with hq | rfl
    · have := h.a1 q hq; omega
    · simp only; omega
theorem AB.addE_full {A : AB} {f t : Int} (h : A.addE f t = 0) : fullB A.ps.length A.r = false := by
  unfold AB.addE at h
  split at h
  · omega
  · split at h
    · omega
    · rename_i h2; simpa using h2
theorem AB.dupE_full {A : AB} {k : Int} (h : A.dupE k = 0) : fullB A.ps.length A.r = false ∧ hasB k A.ps.length = true := by
  unfold AB.dupE at h
  split at h
  · omega
  · split at h
    · omega
    · rename_i h1 h2; exact ⟨by simpa using h2, by simpa using h1⟩
theorem AB.takeE_has {A : AB} {k : Int} (h : A.takeE k = 0) : hasB k A.ps.length = true := by
  unfold AB.takeE at h
  split at h
  · assumption
  · omega
theorem AB.at_mem {A : AB} {k : Int} (h : hasB k A.ps.length = true) : A.ps[k.toNat]? = some (A.at k) ∧ k.toNat < A.ps.length := by
  have h' : 0 ≤ k ∧ k < A.ps.length := of_decide_eq_true h
  have hk : k.toNat < A.ps.length := by omega
  refine ⟨?_, hk⟩
  unfold AB.at
  rw [if_pos h, List.getD_eq_getElem?_getD, List.getElem?_eq_getElem hk]
  rfl
theorem AB.Ok.add {A : AB} {k : Nat} (h : A.Ok k) (f t : Int) (bs : List UInt8) : (A.add f t bs).Ok (k + 1) := by
  unfold AB.add
  split
  · rename_i h0; exact h.lay _ (AB.addE_full h0)
  · exact h.more (by omega)
theorem AB.Ok.take {A : AB} {k : Nat} (h : A.Ok k) (j : Int) : (A.take j).Ok (k + 1) := by
  unfold AB.take
  split
  · rename_i h0
    refine ⟨h.r1, h.r2, ?_, h.l0, by have := h.l1; simp only; omega, fun p hp => h.a0 p (List.mem_of_mem_eraseIdx hp), fun p hp => by have := h.a1 p (List.mem_of_mem_eraseIdx hp); omega⟩
    have := h.len
    have := List.length_eraseIdx_le A.ps j.toNat
    simp only
    omega
  · exact h.more (by omega)
theorem AB.Ok.dup {A : AB} {k : Nat} (h : A.Ok k) (j : Int) : (A.dup j).Ok (k + 1) := by
  unfold AB.dup
  split
  · rename_i h0; exact h.lay _ (AB.dupE_full h0).1
  · exact h.more (by omega)
theorem AB.flipE_has {A : AB} {k x y : Int} (h : A.flipE k x y = 0) : hasB k A.ps.length = true ∧ hasB x (A.at k).bs.length = true ∧ 1 ≤ y ∧ y ≤ 255 ∧ ((A.at k).u = 0 ∨ (A.at k).u = x + 1) := by
  unfold AB.flipE at h
  split at h
  · omega
  · split at h
    · omega
    · split at h
      · omega
      · rename_i h1 h2 h3
        exact ⟨by simpa using h1, by simpa using h2, by omega, by omega, by omega⟩
theorem AB.Ok.flip {A : AB} {k : Nat} (h : A.Ok k) (j x y : Int) : (A.flip j x y).Ok (k + 1) := by
  unfold AB.flip
  split
  · rename_i h0
    obtain ⟨hm, _⟩ := AB.at_mem (AB.flipE_has h0).1
    have hmem := List.mem_of_getElem? hm
    refine ⟨h.r1, h.r2, by simpa using h.len, h.l0, by have := h.l1; simp only; omega, fun p hp => ?_, fun p hp => ?_⟩
    · rcases List.mem_or_eq_of_mem_set hp with hp | rfl
      · exact h.a0 p hp
      · exact h.a0 (A.at j) hmem
    · rcases List.mem_or_eq_of_mem_set hp with hp | rfl
      · have := h.a1 p hp; omega
      · have := h.a1 _ hmem; simp only [AP.flip]; omega
  · exact h.more (by omega)
theorem AB.Ok.older {A : AB} {k : Nat} (h : A.Ok k) : A.older.Ok (k + 1) := by
  refine ⟨h.r1, h.r2, by simpa [AB.older] using h.len, h.l0, by have := h.l1; simp only [AB.older]; omega, fun p hp => ?_, fun p hp => ?_⟩
  · obtain ⟨q, hq, rfl⟩ := List.mem_map.1 hp
    have := h.a0 q hq; simp only; omega
  · obtain ⟨q, hq, rfl⟩ := List.mem_map.1 hp
    have := h.a1 q hq; simp only; omega

/-- Its bytes lie in the pool. -/
def Bg.In (B : Bg) (P : List (Value × List UInt8)) : Prop := ∀ p ∈ B.ps, (p.D, p.bs) ∈ P ∧ p.bs.length ≤ 140737488355328
theorem Bg.In.more {B : Bg} {P P' : List (Value × List UInt8)} (h : B.In P) (hs : ∀ e ∈ P, e ∈ P') : B.In P' := fun p hp => ⟨hs _ (h p hp).1, (h p hp).2⟩
end Go.Proofs.Ytpfpamkbahgkpaa

import Derived.Test.YtkcepkehgkkkbabGreatDoorJ19
import Derived.Test.YtkcepkehgkkkbabGreatDoorJ16
import Derived.WalkKit
import Derived.WalkSpells
import Derived.WalkLawsBesides
import Derived.Maps.AppendAt
import Derived.Laws.AppendOwnNone
namespace Go.Proofs.YtkcepkehgkkkbabGreatDoor
open Go.RowKit
set_option linter.unusedVariables false

/-- A queue, and where it lies. -/
structure Qs where
  nm : ByteArray
  first : Nat
  items : List ByteArray
  iv : Value
  b : Nat
  n : Nat
  D : DataW Unit
def Qs.v (q : Qs) : Qv := ⟨q.nm, (q.first : Int), q.iv, .map (some q.b)⟩
def slV : Option Qs → Qv
  | none => noQ
  | some q => q.v
def slC : Option Qs → List Comp
  | none => []
  | some q => [ownC 9 q.iv (txtV q.items), mapC q.b q.n q.D]
abbrev St := List (Option Qs)
def stV (S : St) : List Qv := S.map slV
/-- The parts of all slots but one. -/
def restC (S : St) (i : Nat) : List Comp := (S.set i none).flatMap slC
/-- A shelf, as parts. -/
def shL (P : Nat) (S : St) : List Comp := blkC P (flat (stV S)) 74 :: S.flatMap slC

theorem flat_out {S : St} {i : Nat} {s : Option Qs} (h : S[i]? = some s) : (S.flatMap slC).Perm (slC s ++ restC S i) := by
  induction S generalizing i with
  | nil => simp at h
  | cons p S ih =>
    cases i with
    | zero =>
      simp at h; subst h
      simp [restC, slC]
    | succ i =>
      simp only [List.getElem?_cons_succ] at h
      have := ih h
      simp only [restC, List.set_cons_succ, List.flatMap_cons] at this ⊢
      refine (List.Perm.append_left _ this).trans ?_
      rw [← List.append_assoc, ← List.append_assoc]
      exact List.perm_append_comm.append_right _
theorem restC_set (S : St) (i : Nat) (s : Option Qs) : restC (S.set i s) i = restC S i := by simp [restC, List.set_set]
theorem flat_in {S : St} {i : Nat} (hi : i < S.length) (s : Option Qs) : ((S.set i s).flatMap slC).Perm (slC s ++ restC S i) := by
  have := flat_out (S := S.set i s) (i := i) (s := s) (by simp [hi])
  rw [restC_set] at this
  exact this
theorem stV_at {S : St} {i : Nat} {s : Option Qs} (h : S[i]? = some s) : (stV S)[i]? = some (slV s) := by simp [stV, h]
theorem stV_set (S : St) (i : Nat) (s : Option Qs) : stV (S.set i s) = (stV S).set i (slV s) := by simp [stV, List.map_set]
theorem stV_len (S : St) : (stV S).length = S.length := by simp [stV]

/-- One queue is taken out. -/
theorem All.shOut {P : Nat} {S : St} {i : Nat} {q : Qs} {cs : List Comp} {w : World} (h : All (shL P S ++ cs) w) (hq : S[i]? = some (some q)) : All (blkC P (flat (stV S)) 74 :: ownC 9 q.iv (txtV q.items) :: mapC q.b q.n q.D :: (restC S i ++ cs)) w := by
  refine h.perm ?_
  have := ((flat_out hq).append_right cs).cons (blkC P (flat (stV S)) 74)
  simpa [shL, slC] using this
/-- It is put back, turned. -/
theorem All.shIn {P : Nat} {S : St} {i : Nat} {q : Qs} {cs : List Comp} {w : World} (hi : i < S.length) (h : All (blkC P (flat ((stV S).set i q.v)) 74 :: ownC 9 q.iv (txtV q.items) :: mapC q.b q.n q.D :: (restC S i ++ cs)) w) : All (shL P (S.set i (some q)) ++ cs) w := by
  refine h.perm ?_
  have := ((flat_in hi (some q)).append_right cs).cons (blkC P (flat (stV (S.set i (some q)))) 74)
  rw [stV_set] at this
  have h2 := this.symm
  simpa [shL, slC, slV, stV_set] using h2
theorem All.shSame {P : Nat} {S : St} {i : Nat} {q : Qs} {cs : List Comp} {w : World} (hq : S[i]? = some (some q)) (h : All (blkC P (flat (stV S)) 74 :: ownC 9 q.iv (txtV q.items) :: mapC q.b q.n q.D :: (restC S i ++ cs)) w) : All (shL P S ++ cs) w := by
  refine h.perm ?_
  have := ((flat_out hq).append_right cs).cons (blkC P (flat (stV S)) 74)
  have h2 := this.symm
  simpa [shL, slC] using h2
/-- It is gone. -/
theorem All.shDrop {P : Nat} {S : St} {i : Nat} {cs : List Comp} {w : World} (hi : i < S.length) (h : All (blkC P (flat ((stV S).set i noQ)) 74 :: (restC S i ++ cs)) w) : All (shL P (S.set i none) ++ cs) w := by
  have e : shL P (S.set i none) = blkC P (flat ((stV S).set i noQ)) 74 :: restC S i := by simp [shL, stV_set, slV, restC]
  rw [e]
  exact h

/-- What holds of a queue. -/
structure OkQ (N : Nat) (q : Qs) : Prop where
  nm0 : 0 < q.nm.size
  nm16 : q.nm.size ≤ 16
  len : q.items.length ≤ 32
  small : ∀ t ∈ q.items, t.size ≤ 64
  fin : q.first + q.items.length ≤ 1099511627776
  gs : Maps.size q.D ≤ 4
  gk : ∀ x, Maps.has q.D (.string x) = true → 0 < x.length ∧ x.length ≤ 16 ∧ ∃ c : Nat, leftD q.D (.string x) = (c : Int) ∧ q.first ≤ c ∧ c ≤ q.first + q.items.length
  cn : q.n ≤ N
/-- What holds of a shelf. -/
structure OkS (N : Nat) (S : St) : Prop where
  len : S.length = 8
  each : ∀ (i : Nat) (q : Qs), S[i]? = some (some q) → OkQ N q
  one : ∀ (i j : Nat) (q q' : Qs), S[i]? = some (some q) → S[j]? = some (some q') → q.nm = q'.nm → i = j

theorem toList_loop (b : ByteArray) : ∀ (d i : Nat) (r : List UInt8), b.size - i = d → ByteArray.toList.loop b i r = r.reverse ++ b.data.toList.drop i := by
  intro d
  induction d with
  | zero =>
    intro i r h
    unfold ByteArray.toList.loop
    rw [if_neg (by omega), List.drop_of_length_le (by rw [str_len]; omega)]
    simp
  | succ d ih =>
    intro i r h
    unfold ByteArray.toList.loop
    rw [if_pos (by omega), ih (i + 1) _ (by omega)]
    have hi : i < b.data.toList.length := by rw [str_len]; omega
    rw [List.drop_eq_getElem_cons hi]
    simp only [List.reverse_cons, List.append_assoc, List.cons_append, List.nil_append]
    congr 2
    simp only [ByteArray.get!, Array.getElem_toList]
    exact getElem!_pos b.data i (by simpa using hi)
theorem toList_data (s : ByteArray) : s.toList = s.data.toList := by
  unfold ByteArray.toList
  rw [toList_loop s _ 0 [] rfl]
  simp
theorem toList_inj {s t : ByteArray} (h : s.toList = t.toList) : s = t := by
  rw [toList_data, toList_data] at h
  cases s; cases t
  simpa using h
theorem empty_iff (s : ByteArray) : s.toList = [] ↔ s.size = 0 := by
  rw [toList_data, ← List.length_eq_zero_iff, str_len]

/-- A name that is sought: the queue that has it, or none has. -/
theorem find_cases {N : Nat} {S : St} (hS : OkS N S) (nm : ByteArray) (hn : 0 < nm.size) : (findN (stV S) nm = -1 ∧ ∀ (i : Nat) (q : Qs), S[i]? = some (some q) → q.nm ≠ nm) ∨ ∃ (i : Nat) (q : Qs), findN (stV S) nm = (i : Int) ∧ S[i]? = some (some q) ∧ q.nm = nm := by
  cases hf : (stV S).findIdx? (fun q => q.nm.toList == nm.toList) with
  | none =>
    left
    refine ⟨by rw [findN, hf], fun i q hq he => ?_⟩
    rw [List.findIdx?_eq_none_iff] at hf
    have := hf (slV (some q)) (List.mem_of_getElem? (stV_at hq))
    simp [slV, Qs.v, he] at this
  | some i =>
    right
    rw [List.findIdx?_eq_some_iff_getElem] at hf
    obtain ⟨hi, he, _⟩ := hf
    have hf2 : (stV S).findIdx? (fun q => q.nm.toList == nm.toList) = some i := by
      rw [List.findIdx?_eq_some_iff_getElem]; exact ⟨hi, he, by assumption⟩
    have hi' : i < S.length := by rw [stV_len] at hi; exact hi
    have e1 : (stV S)[i] = slV S[i] := by simp [stV]
    rw [e1] at he
    cases hs : S[i] with
    | none =>
      rw [hs] at he
      simp only [slV, beq_iff_eq] at he
      have h0 : nm.toList = [] := by rw [← he, empty_iff]; rfl
      rw [empty_iff] at h0
      omega
    | some q =>
      rw [hs] at he
      simp only [slV, Qs.v, beq_iff_eq] at he
      exact ⟨i, q, by rw [findN, hf2], by rw [List.getElem?_eq_getElem hi', hs], toList_inj he⟩
/-- A free slot. -/
theorem free_cases {N : Nat} {S : St} (hS : OkS N S) : findN (stV S) ⟨#[]⟩ = -1 ∨ ∃ f : Nat, findN (stV S) ⟨#[]⟩ = (f : Int) ∧ S[f]? = some none := by
  cases hf : (stV S).findIdx? (fun q => q.nm.toList == (⟨#[]⟩ : ByteArray).toList) with
  | none => exact Or.inl (by rw [findN, hf])
  | some i =>
    right
    have hf2 := hf
    rw [List.findIdx?_eq_some_iff_getElem] at hf
    obtain ⟨hi, he, _⟩ := hf
    have hi' : i < S.length := by rw [stV_len] at hi; exact hi
    have e1 : (stV S)[i] = slV S[i] := by simp [stV]
    rw [e1] at he
    refine ⟨i, by rw [findN, hf2], ?_⟩
    rw [List.getElem?_eq_getElem hi']
    cases hs : S[i] with
    | none => rfl
    | some q =>
      rw [hs] at he
      simp only [slV, Qs.v, beq_iff_eq] at he
      have h1 := (hS.each i q (by rw [List.getElem?_eq_getElem hi', hs])).nm0
      have h2 : q.nm.toList = [] := by rw [he, empty_iff]; rfl
      rw [empty_iff] at h2
      omega

/-- What an op does that may be. -/
inductive Deed (S : St) (nm tx : ByteArray) (n m : Int) : Int → St → Int → Int → List ByteArray → Int → Prop
  | none (k : Int) (hk : 2 ≤ k ∧ k ≤ 7) (h : findN (stV S) nm = -1) : Deed S nm tx n m k S 1 0 [] (-1)
  | there (h : findN (stV S) nm ≠ -1) : Deed S nm tx n m 1 S 2 0 [] (-1)
  | full (h : findN (stV S) nm = -1) (hf : findN (stV S) ⟨#[]⟩ = -1) : Deed S nm tx n m 1 S 3 0 [] (-1)
  | make (f b : Nat) (h : findN (stV S) nm = -1) (hf : findN (stV S) ⟨#[]⟩ = (f : Int)) (hs : S[f]? = some none) : Deed S nm tx n m 1 (S.set f (some ⟨nm, 0, [], .slice none 0 0, b, 0, .map []⟩)) 0 0 [] (f : Int)
  | drop (i : Nat) (q : Qs) (h : findN (stV S) nm = (i : Int)) (hs : S[i]? = some (some q)) (hn : q.nm = nm) : Deed S nm tx n m 2 (S.set i none) 0 0 [] (i : Int)
  | pushFull (i : Nat) (q : Qs) (h : findN (stV S) nm = (i : Int)) (hs : S[i]? = some (some q)) (hn : q.nm = nm) (hf : q.items.length = 32 ∨ q.first + q.items.length = 1099511627776) : Deed S nm tx n m 3 S 3 0 [] (-1)
  | push (i : Nat) (q : Qs) (iv' : Value) (h : findN (stV S) nm = (i : Int)) (hs : S[i]? = some (some q)) (hn : q.nm = nm) (hl : q.items.length < 32) (hf : q.first + q.items.length < 1099511627776) : Deed S nm tx n m 3 (S.set i (some ⟨q.nm, q.first, q.items ++ [tx], iv', q.b, q.n, q.D⟩)) 0 ((q.first : Int) + (q.items.length : Int)) [] (i : Int)
  | trimNone (i : Nat) (q : Qs) (h : findN (stV S) nm = (i : Int)) (hs : S[i]? = some (some q)) (hn : q.nm = nm) (hl : n ≤ q.first ∨ q.items = []) : Deed S nm tx n m 4 S 0 0 [] (-1)
  | trim (i : Nat) (q : Qs) (iv' : Value) (D' : DataW Unit) (d : Nat) (h : findN (stV S) nm = (i : Int)) (hs : S[i]? = some (some q)) (hn : q.nm = nm) (hd : (q.first : Int) + (d : Int) = min n ((q.first : Int) + (q.items.length : Int))) (h0 : 0 < d) (hl : d ≤ q.items.length) (ht : TrimR q.D ((q.first : Int) + (d : Int)) (fun _ => false) D') : Deed S nm tx n m 4 (S.set i (some ⟨q.nm, q.first + d, q.items.drop d, iv', q.b, q.n, D'⟩)) 0 (d : Int) [] (i : Int)
  | takeFull (i : Nat) (q : Qs) (h : findN (stV S) nm = (i : Int)) (hs : S[i]? = some (some q)) (hn : q.nm = nm) (hh : Maps.has q.D (.string tx.data.toList) = false) (h4 : Maps.size q.D = 4) : Deed S nm tx n m 5 S 3 0 [] (-1)
  | takeEmpty (i : Nat) (q : Qs) (h : findN (stV S) nm = (i : Int)) (hs : S[i]? = some (some q)) (hn : q.nm = nm) (hh : (Maps.has q.D (.string tx.data.toList) = false ∧ Maps.size q.D ≠ 4 ∧ q.items = []) ∨ (Maps.has q.D (.string tx.data.toList) = true ∧ leftD q.D (.string tx.data.toList) = (q.first : Int) + (q.items.length : Int))) : Deed S nm tx n m 5 S 4 0 [] (-1)
  | take (i : Nat) (q : Qs) (d : Nat) (item : ByteArray) (h : findN (stV S) nm = (i : Int)) (hs : S[i]? = some (some q)) (hn : q.nm = nm) (hd : q.items[d]? = some item) (hh : (Maps.has q.D (.string tx.data.toList) = true ∧ leftD q.D (.string tx.data.toList) = (q.first : Int) + (d : Int)) ∨ (Maps.has q.D (.string tx.data.toList) = false ∧ Maps.size q.D < 4 ∧ d = 0)) : Deed S nm tx n m 5 (S.set i (some ⟨q.nm, q.first, q.items, q.iv, q.b, q.n + 1, q.D.put (.string tx.data.toList) (.lit (.int .i64 ((q.first : Int) + (d : Int) + 1)))⟩)) 0 ((q.first : Int) + (d : Int)) [item] (i : Int)
  | readNone (i : Nat) (q : Qs) (h : findN (stV S) nm = (i : Int)) (hs : S[i]? = some (some q)) (hn : q.nm = nm) (hl : (q.first : Int) + (q.items.length : Int) ≤ max n (q.first : Int)) : Deed S nm tx n m 6 S 0 n [] (-1)
  | read (i : Nat) (q : Qs) (d : Nat) (h : findN (stV S) nm = (i : Int)) (hs : S[i]? = some (some q)) (hn : q.nm = nm) (hd : max n (q.first : Int) = (q.first : Int) + (d : Int)) (hl : d < q.items.length) : Deed S nm tx n m 6 S 0 ((q.first : Int) + (d : Int)) ((q.items.drop d).take m.toNat) (-1)
  | count (i : Nat) (q : Qs) (h : findN (stV S) nm = (i : Int)) (hs : S[i]? = some (some q)) (hn : q.nm = nm) : Deed S nm tx n m 7 S 0 (q.items.length : Int) [] (-1)
  | list : Deed S nm tx n m 8 S 0 0 (nmsS (stV S)) (-1)
end Go.Proofs.YtkcepkehgkkkbabGreatDoor

namespace Go.Proofs.YtkcepkehgkkkbabGreatDoor
open Go.RowKit
set_option linter.unusedVariables false

def txtB (s : ByteArray) : List UInt8 := enc 9 s.size ++ s.data.toList
end Go.Proofs.YtkcepkehgkkkbabGreatDoor

namespace Go.Proofs.YtkcepkehgkkkbabGreatDoor
open Go.RowKit
set_option linter.unusedVariables false

end Go.Proofs.YtkcepkehgkkkbabGreatDoor

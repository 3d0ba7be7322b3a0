import Derived.Test.YtkcepkehgkkkbabDoorShelf
import Derived.Test.YtkcepkehgkkkbabDoorJ13
namespace Go.Proofs.YtkcepkehgkkkbabDoor
open Go.RowKit
set_option linter.unusedVariables false
theorem run_store_func (P : Program) (w : World) (a : Addr) (m : Mode) (f : Fn) (x y : Array Value) : (store a (.func f x y) m).run P w = stored P w a (.func f x y) m := run_store P w a _ m rfl
theorem run_store_nilf (P : Program) (w : World) (a : Addr) (m : Mode) : (store a .nilFunc m).run P w = stored P w a .nilFunc m := run_store P w a _ m rfl
attribute [local go_sem] run_store_func run_store_nilf

abbrev fnV (n : Nat) : Value := .func (.func n) #[] #[]
def deedsA : Array Value := #[.nilFunc, .bool false, fnV 35, .bool false, fnV 36, .bool true, fnV 37, .bool true, fnV 38, .bool true, fnV 39, .bool true, fnV 40, .bool true, fnV 41, .bool true, fnV 42, .bool false]
abbrev deedsV : Value := .agg #[.nilFunc, .bool false, fnV 35, .bool false, fnV 36, .bool true, fnV 37, .bool true, fnV 38, .bool true, fnV 39, .bool true, fnV 40, .bool true, fnV 41, .bool true, fnV 42, .bool false]
theorem Tryd.und71 : Tryd.prog.underlying 71 = some (.array 9 70) := by kernel_rfl
set_option maxRecDepth 1000000 in
theorem deeds_any {w : World} : Calls Tryd.prog 25 #[] w fun e w' => e = .returned deedsV ∧ Below w.heap.size w w' := by
  have hh := heap_alloc_new w (.cells #[.nilFunc, .bool false, fnV 35, .bool false, fnV 36, .bool true, fnV 37, .bool true, fnV 38, .bool true, fnV 39, .bool true, fnV 40, .bool true, fnV 41, .bool true, fnV 42, .bool false] 71)
  have B := hid (ba w (.cells #[.nilFunc, .bool false, fnV 35, .bool false, fnV 36, .bool true, fnV 37, .bool true, fnV 38, .bool true, fnV 39, .bool true, fnV 40, .bool true, fnV 41, .bool true, fnV 42, .bool false] 71))
  go_enter Tryd.func25, Tryd.ntmps25
  go_wp2
  generalize w.alloc _ = W at hh B ⊢
  refine bodyPost_ret (v := deedsV) (results_cell_row (fn := Tryd.f25) rfl _ W w.heap.size 71 #[.nilFunc, .bool false, fnV 35, .bool false, fnV 36, .bool true, fnV 37, .bool true, fnV 38, .bool true, fnV 39, .bool true, fnV 40, .bool true, fnV 41, .bool true, fnV 42, .bool false] (0, 0) _ rfl hh Tryd.und71 rfl (by kernel_rfl)) rfl ?_
  exact ⟨rfl, B.out⟩
end Go.Proofs.YtkcepkehgkkkbabDoor

namespace Go.Proofs.YtkcepkehgkkkbabDoor
open Go.RowKit
set_option linter.unusedVariables false

/-- A slot, as its four cells have it. -/
structure Qv where
  nm : ByteArray
  first : Int
  iv : Value
  gv : Value
def qcells (q : Qv) : List Value := [.string q.nm, .int .i64 q.first, q.iv, q.gv]
def flat (qs : List Qv) : List Value := qs.flatMap qcells
abbrev noQ : Qv := ⟨⟨#[]⟩, 0, .slice none 0 0, .map none⟩

theorem flat_at {qs : List Qv} {i : Nat} {q : Qv} (h : qs[i]? = some q) (j : Nat) (hj : j < 4) : (flat qs)[i * 4 + j]? = (qcells q)[j]? := by
  induction qs generalizing i with
  | nil => simp at h
  | cons p qs ih =>
    cases i with
    | zero =>
      simp at h; subst h
      simp only [flat, List.flatMap_cons, Nat.zero_mul, Nat.zero_add]
      rw [List.getElem?_append_left (by simpa [qcells] using hj)]
    | succ i =>
      simp only [List.getElem?_cons_succ] at h
      simp only [flat, List.flatMap_cons]
      rw [List.getElem?_append_right (by simp [qcells]; omega)]
      have : (i + 1) * 4 + j - (qcells p).length = i * 4 + j := by simp [qcells]; omega
      rw [this]
      exact ih h
theorem flat_len (qs : List Qv) : (flat qs).length = qs.length * 4 := by
  induction qs with
  | nil => rfl
  | cons p qs ih => simp only [flat, List.flatMap_cons, List.length_append, List.length_cons] at ih ⊢; rw [ih]; simp [qcells]; omega
theorem flat_set {qs : List Qv} {i : Nat} {q q' : Qv} {v : Value} {j : Nat} (h : qs[i]? = some q) (hj : j < 4) (e : (qcells q).set j v = qcells q') : (flat qs).set (i * 4 + j) v = flat (qs.set i q') := by
  induction qs generalizing i with
  | nil => simp at h
  | cons p qs ih =>
    cases i with
    | zero =>
      simp at h; subst h
      simp only [flat, List.flatMap_cons, Nat.zero_mul, Nat.zero_add, List.set_cons_zero]
      rw [List.set_append_left (h := by simpa [qcells] using hj), e]
    | succ i =>
      simp only [List.getElem?_cons_succ] at h
      simp only [flat, List.flatMap_cons, List.set_cons_succ] at ih ⊢
      rw [List.set_append_right (h := by simp [qcells]; omega)]
      have : (i + 1) * 4 + j - (qcells p).length = i * 4 + j := by simp [qcells]; omega
      rw [this]
      exact congrArg _ (ih h)

/-- A slot's cells. -/
theorem slot_cell {w : World} {P : Nat} {qs : List Qv} (hb : w.heap[P]? = some (.cells (flat qs).toArray 56 (0, 0))) {i : Nat} {q : Qv} (h : qs[i]? = some q) (j : Nat) (hj : j < 4) {v : Value} (hv : (qcells q)[j]? = some v) : w.cell? ⟨P, i * 4 + j, none⟩ = some v := by
  rw [cell_at hb, List.getElem?_toArray, flat_at h j hj, hv]

/-- Where a name lies. -/
def findN (qs : List Qv) (nm : ByteArray) : Int := match qs.findIdx? (fun q => q.nm.toList == nm.toList) with
  | some i => (i : Int)
  | none => -1

theorem findN_at {qs : List Qv} {nm : ByteArray} {k : Nat} {q : Qv} (hq : qs[k]? = some q) (he : (q.nm.toList == nm.toList) = true) (hb : ∀ j p, j < k → qs[j]? = some p → (p.nm.toList == nm.toList) = false) : findN qs nm = k := by
  have : qs.findIdx? (fun q => q.nm.toList == nm.toList) = some k := by
    rw [List.findIdx?_eq_some_iff_getElem]
    obtain ⟨hk, e⟩ := List.getElem?_eq_some_iff.1 hq
    refine ⟨hk, by rw [e]; exact he, fun j hj => ?_⟩
    rw [hb j _ hj (List.getElem?_eq_getElem _)]; simp
  rw [findN, this]
theorem findN_none {qs : List Qv} {nm : ByteArray} (hb : ∀ p ∈ qs, (p.nm.toList == nm.toList) = false) : findN qs nm = -1 := by
  have : qs.findIdx? (fun q => q.nm.toList == nm.toList) = none := by
    rw [List.findIdx?_eq_none_iff]
    exact hb
  rw [findN, this]

set_option maxHeartbeats 1600000 in
set_option maxRecDepth 1000000 in
theorem find_any {w : World} {P : Nat} {qs : List Qv} (hb : w.heap[P]? = some (.cells (flat qs).toArray 56 (0, 0))) (h8 : qs.length = 8) (nm : ByteArray) :
    Calls Tryd.prog 26 #[.pointer (some ⟨P, 0, none⟩), .string nm] w fun e w' => e = .returned (.int .i64 (findN qs nm)) ∧ w' = w := by
  have HB := hid hb
  clear hb
  go_enter Tryd.func26, Tryd.ntmps26
  go_wp2
  go_loopw [6] (fun iv wr => ∃ k : Nat, iv = .int .i64 (k : Int) ∧ k ≤ 8 ∧ Hid (∀ j p, j < k → qs[j]? = some p → (p.nm.toList == nm.toList) = false) ∧ wr = w) (fun iv _ => 8 - (intOf iv).toNat)
  case atStart => exact ⟨0, rfl, by omega, fun j p hj => absurd hj (by omega), rfl⟩
  case round =>
    obtain ⟨k, rfl, hk, hbef, rfl⟩ := hrel
    by_cases hlt : k < 8
    · obtain ⟨q, hq⟩ : ∃ q, qs[k]? = some q := ⟨_, List.getElem?_eq_getElem (by omega)⟩
      have c0 : wr.cell? ⟨P, k * 4, none⟩ = some (.string q.nm) := slot_cell HB.out hq 0 (by omega) rfl
      have HQ := hid hq
      clear hq
      cases he : (q.nm.toList == nm.toList) with
      | true =>
        have HE := hid he
        go_wp2
        go_ret
        exact ⟨by rw [findN_at HQ.out HE.out hbef.out]; rfl, rfl⟩
      | false =>
        have HE := hid he
        go_wp2
        go_roundw
        case rel => exact ⟨k + 1, by go_num, by omega, fun j p hj hp => by rcases Nat.lt_succ_iff_lt_or_eq.1 hj with h | h; exact hbef.out j p h hp; subst h; rw [HQ.out] at hp; cases hp; exact HE.out, trivial⟩
        case measure => simp [intOf]; omega
    · obtain rfl : k = 8 := by omega
      go_wp2
      go_ret
      refine ⟨by rw [findN_none]; rfl; intro p hp; obtain ⟨j, hj, rfl⟩ := List.getElem_of_mem hp; exact hbef.out j _ (by omega) (List.getElem?_eq_getElem hj), rfl⟩

abbrev zero32 : List Value := flat [noQ, noQ, noQ, noQ, noQ, noQ, noQ, noQ]

set_option maxRecDepth 1000000 in
theorem New_any {cs : List Comp} {w : World} (h : All cs w) : Calls Tryd.prog 6 #[] w fun e w' => ∃ P, e = .returned (.pointer (some ⟨P, 0, none⟩)) ∧ All (blkC P zero32 56 :: cs) w' ∧ Below w.heap.size w w' ∧ w.heap.size ≤ P := by
  have H := hid (h.addBlk zero32 56)
  have B := hid (ba w (.cells zero32.toArray 56))
  clear h
  go_enter Tryd.func6, Tryd.ntmps6
  go_wp2
  go_ret
  exact ⟨_, rfl, H.out, B.out, Nat.le_refl _⟩

/-- A map of a queue's groups. -/
noncomputable abbrev rE : Value → Option (DataW Unit × List MemPlace) := plainElem Tryd.prog 3
def mapC (b n : Nat) (D : DataW Unit) : Comp := ⟨fun w => w.ownsMap Tryd.prog 9 rE b n D, [b]⟩
theorem mapC_good (b n : Nat) (D : DataW Unit) : (mapC b n D).Good := by
  rintro w w' ⟨es, clock, hb, r⟩ hl hk
  exact ⟨es, clock, (hk b (by simp [mapC])).trans hb, r⟩

/-- A map that was just made. -/
theorem All.addMap {cs : List Comp} {w : World} (h : All cs w) : All (mapC w.heap.size 0 (.map []) :: cs) (w.alloc (.map #[] 0)) := by
  refine h.add (Fr.below (ba w _)) (mapC_good _ _ _) (World.ownsMap_made w Tryd.prog 9 rE) (fun k hk => ?_)
  have hk' : k = w.heap.size := by simpa [mapC] using hk
  subst hk'
  exact ⟨Nat.le_refl _, by simp⟩

set_option maxRecDepth 1000000 in
theorem newQueue_any {cs : List Comp} {w : World} (h : All cs w) (nm : ByteArray) : Calls Tryd.prog 50 #[.string nm] w fun e w' => ∃ b, e = .returned (.agg #[.string nm, .int .i64 0, .slice none 0 0, .map (some b)]) ∧ All (mapC b 0 (.map []) :: cs) w' ∧ Below w.heap.size w w' ∧ w.heap.size ≤ b := by
  have hmm := @run_makeMap Tryd.prog
  have H := fun o => hid ((h.alloc o).addMap)
  have B := fun o => hid (b2 (ba w o) (ba (w.alloc o) (.map #[] 0)))
  have hsz : ∀ o, (w.alloc o).heap.size = w.heap.size + 1 := fun o => by simp
  simp only [hsz] at H
  clear h hsz
  go_enter Tryd.func50, Tryd.ntmps50
  go_wp2
  refine bodyPost_ret (v := .agg #[.string nm, .int .i64 0, .slice none 0 0, .map (some (w.heap.size + 1))]) (by simp only [results, Tryd.f50]; go_simp) rfl ?_
  exact ⟨_, rfl, (H _).out, (B _).out, by omega⟩

set_option maxRecDepth 1000000 in
theorem end_q {w : World} {P i : Nat} {first : Int} {ao : Option Addr} {n c : Nat} (c1 : w.cell? ⟨P, i * 4 + 1, none⟩ = some (.int .i64 first)) (c2 : w.cell? ⟨P, i * 4 + 2, none⟩ = some (.slice ao n c)) (h0 : 0 ≤ first) (h1 : first + n ≤ 1152921504606846976) :
    Calls Tryd.prog 51 #[.pointer (some ⟨P, i * 4, none⟩)] w fun e w' => e = .returned (.int .i64 (first + n)) ∧ ∃ q, w' = w.drewN q := by
  go_enter Tryd.func51, Tryd.ntmps51
  go_wp2
  go_quiet (fail)
  go_wp2
  go_ret
  exact ⟨rfl, _, rfl⟩
end Go.Proofs.YtkcepkehgkkkbabDoor

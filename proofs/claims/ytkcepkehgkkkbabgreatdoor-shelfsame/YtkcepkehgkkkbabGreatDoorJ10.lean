import Derived.Test.YtkcepkehgkkkbabGreatDoorRC
import Derived.Test.YtkcepkehgkkkbabGreatDoorDeeds
namespace Go.Proofs.YtkcepkehgkkkbabGreatDoor
open Go.RowKit
set_option linter.unusedVariables false

/-- A slot, as its four cells have it. -/
structure Qv where
  nm : ByteArray
  first : Int
  iv : Value
  gv : Value
def qcells (q : Qv) : List Value := [.string q.nm, .int .i64 q.first, q.iv, q.gv]
def flat (qs : List Qv) : List Value := qs.flatMap qcells
abbrev noQ : Qv := ⟨⟨#[]⟩, 0, .slice none 0 0, .map none⟩

theorem flat_at {qs : List Qv} {i : Nat} {q : Qv} (h : qs[i]? = some q) (j : Nat) (hj : j < 4) : (flat qs)[i * 4 + j]? = (qcells q)[j]? := by
  induction qs generalizing i with
  | nil => simp at h
  | cons p qs ih =>
    cases i with
    | zero =>
      simp at h; subst h
      simp only [flat, List.flatMap_cons, Nat.zero_mul, Nat.zero_add]
      rw [List.getElem?_append_left (by simpa [qcells] using hj)]
    | succ i =>
      simp only [List.getElem?_cons_succ] at h
      simp only [flat, List.flatMap_cons]
      rw [List.getElem?_append_right (by simp [qcells]; omega)]
      have : (i + 1) * 4 + j - (qcells p).length = i * 4 + j := by simp [qcells]; omega
      rw [this]
      exact ih h
theorem flat_len (qs : List Qv) : (flat qs).length = qs.length * 4 := by
  induction qs with
  | nil => rfl
  | cons p qs ih => simp only [flat, List.flatMap_cons, List.length_append, List.length_cons] at ih ⊢; rw [ih]; simp [qcells]; omega
theorem flat_set {qs : List Qv} {i : Nat} {q q' : Qv} {v : Value} {j : Nat} (h : qs[i]? = some q) (hj : j < 4) (e : (qcells q).set j v = qcells q') : (flat qs).set (i * 4 + j) v = flat (qs.set i q') := by
  induction qs generalizing i with
  | nil => simp at h
  | cons p qs ih =>
    cases i with
    | zero =>
      simp at h; subst h
      simp only [flat, List.flatMap_cons, Nat.zero_mul, Nat.zero_add, List.set_cons_zero]
      rw [List.set_append_left (h := by simpa [qcells] using hj), e]
    | succ i =>
      simp only [List.getElem?_cons_succ] at h
      simp only [flat, List.flatMap_cons, List.set_cons_succ] at ih ⊢
      rw [List.set_append_right (h := by simp [qcells]; omega)]
      have : (i + 1) * 4 + j - (qcells p).length = i * 4 + j := by simp [qcells]; omega
      rw [this]
      exact congrArg _ (ih h)

/-- A slot's cells. -/
theorem slot_cell {w : World} {P : Nat} {qs : List Qv} (hb : w.heap[P]? = some (.cells (flat qs).toArray 74 (0, 0))) {i : Nat} {q : Qv} (h : qs[i]? = some q) (j : Nat) (hj : j < 4) {v : Value} (hv : (qcells q)[j]? = some v) : w.cell? ⟨P, i * 4 + j, none⟩ = some v := by
  rw [cell_at hb, List.getElem?_toArray, flat_at h j hj, hv]

/-- Where a name lies. -/
def findN (qs : List Qv) (nm : ByteArray) : Int := match qs.findIdx? (fun q => q.nm.toList == nm.toList) with
  | some i => (i : Int)
  | none => -1

theorem findN_at {qs : List Qv} {nm : ByteArray} {k : Nat} {q : Qv} (hq : qs[k]? = some q) (he : (q.nm.toList == nm.toList) = true) (hb : ∀ j p, j < k → qs[j]? = some p → (p.nm.toList == nm.toList) = false) : findN qs nm = k := by
  have : qs.findIdx? (fun q => q.nm.toList == nm.toList) = some k := by
    rw [List.findIdx?_eq_some_iff_getElem]
    obtain ⟨hk, e⟩ := List.getElem?_eq_some_iff.1 hq
    refine ⟨hk, by rw [e]; exact he, fun j hj => ?_⟩
    rw [hb j _ hj (List.getElem?_eq_getElem _)]; simp
  rw [findN, this]
theorem findN_none {qs : List Qv} {nm : ByteArray} (hb : ∀ p ∈ qs, (p.nm.toList == nm.toList) = false) : findN qs nm = -1 := by
  have : qs.findIdx? (fun q => q.nm.toList == nm.toList) = none := by
    rw [List.findIdx?_eq_none_iff]
    exact hb
  rw [findN, this]

set_option maxHeartbeats 1600000 in
set_option maxRecDepth 1000000 in
theorem find_any {w : World} {P : Nat} {qs : List Qv} (hb : w.heap[P]? = some (.cells (flat qs).toArray 74 (0, 0))) (h8 : qs.length = 8) (nm : ByteArray) :
    Calls Tryz.prog 23 #[.pointer (some ⟨P, 0, none⟩), .string nm] w fun e w' => e = .returned (.int .i64 (findN qs nm)) ∧ w' = w := by
  have HB := hid hb
  clear hb
  go_enter Tryz.func23, Tryz.ntmps23
  go_wp2
  go_loopw [6] (fun iv wr => ∃ k : Nat, iv = .int .i64 (k : Int) ∧ k ≤ 8 ∧ Hid (∀ j p, j < k → qs[j]? = some p → (p.nm.toList == nm.toList) = false) ∧ wr = w) (fun iv _ => 8 - (intOf iv).toNat)
  case atStart => exact ⟨0, rfl, by omega, fun j p hj => absurd hj (by omega), rfl⟩
  case round =>
    obtain ⟨k, rfl, hk, hbef, rfl⟩ := hrel
    by_cases hlt : k < 8
    · obtain ⟨q, hq⟩ : ∃ q, qs[k]? = some q := ⟨_, List.getElem?_eq_getElem (by omega)⟩
      have c0 : wr.cell? ⟨P, k * 4, none⟩ = some (.string q.nm) := slot_cell HB.out hq 0 (by omega) rfl
      have HQ := hid hq
      clear hq
      cases he : (q.nm.toList == nm.toList) with
      | true =>
        have HE := hid he
        go_wp2
        go_ret
        exact ⟨by rw [findN_at HQ.out HE.out hbef.out]; rfl, rfl⟩
      | false =>
        have HE := hid he
        go_wp2
        go_roundw
        case rel => exact ⟨k + 1, by go_num, by omega, fun j p hj hp => by rcases Nat.lt_succ_iff_lt_or_eq.1 hj with h | h; exact hbef.out j p h hp; subst h; rw [HQ.out] at hp; cases hp; exact HE.out, trivial⟩
        case measure => simp [intOf]; omega
    · obtain rfl : k = 8 := by omega
      go_wp2
      go_ret
      refine ⟨by rw [findN_none]; rfl; intro p hp; obtain ⟨j, hj, rfl⟩ := List.getElem_of_mem hp; exact hbef.out j _ (by omega) (List.getElem?_eq_getElem hj), rfl⟩

abbrev zero32 : List Value := flat [noQ, noQ, noQ, noQ, noQ, noQ, noQ, noQ]

set_option maxRecDepth 1000000 in
theorem New_any {cs : List Comp} {w : World} (h : All cs w) : Calls Tryz.prog 16 #[] w fun e w' => ∃ P, e = .returned (.pointer (some ⟨P, 0, none⟩)) ∧ All (blkC P zero32 74 :: cs) w' ∧ Below w.heap.size w w' ∧ w.heap.size ≤ P := by
  have H := hid (h.addBlk zero32 74)
  have B := hid (ba w (.cells zero32.toArray 74))
  clear h
  go_enter Tryz.func16, Tryz.ntmps16
  go_wp2
  go_ret
  exact ⟨_, rfl, H.out, B.out, Nat.le_refl _⟩

/-- A map of a queue's groups. -/
noncomputable abbrev rE : Value → Option (DataW Unit × List MemPlace) := plainElem Tryz.prog 3
def mapC (b n : Nat) (D : DataW Unit) : Comp := ⟨fun w => w.ownsMap Tryz.prog 9 rE b n D, [b]⟩
theorem mapC_good (b n : Nat) (D : DataW Unit) : (mapC b n D).Good := by
  rintro w w' ⟨es, clock, hb, r⟩ hl hk
  exact ⟨es, clock, (hk b (by simp [mapC])).trans hb, r⟩

/-- A map that was just made. -/
theorem All.addMap {cs : List Comp} {w : World} (h : All cs w) : All (mapC w.heap.size 0 (.map []) :: cs) (w.alloc (.map #[] 0)) := by
  refine h.add (Fr.below (ba w _)) (mapC_good _ _ _) (World.ownsMap_made w Tryz.prog 9 rE) (fun k hk => ?_)
  have hk' : k = w.heap.size := by simpa [mapC] using hk
  subst hk'
  exact ⟨Nat.le_refl _, by simp⟩

set_option maxRecDepth 1000000 in
theorem newQueue_any {cs : List Comp} {w : World} (h : All cs w) (nm : ByteArray) : Calls Tryz.prog 46 #[.string nm] w fun e w' => ∃ b, e = .returned (.agg #[.string nm, .int .i64 0, .slice none 0 0, .map (some b)]) ∧ All (mapC b 0 (.map []) :: cs) w' ∧ Below w.heap.size w w' ∧ w.heap.size ≤ b := by
  have hmm := @run_makeMap Tryz.prog
  have H := fun o => hid ((h.alloc o).addMap)
  have B := fun o => hid (b2 (ba w o) (ba (w.alloc o) (.map #[] 0)))
  have hsz : ∀ o, (w.alloc o).heap.size = w.heap.size + 1 := fun o => by simp
  simp only [hsz] at H
  clear h hsz
  go_enter Tryz.func46, Tryz.ntmps46
  go_wp2
  refine bodyPost_ret (v := .agg #[.string nm, .int .i64 0, .slice none 0 0, .map (some (w.heap.size + 1))]) (by simp only [results, Tryz.f46]; go_simp) rfl ?_
  exact ⟨_, rfl, (H _).out, (B _).out, by omega⟩

set_option maxRecDepth 1000000 in
theorem end_q {w : World} {P i : Nat} {first : Int} {ao : Option Addr} {n c : Nat} (c1 : w.cell? ⟨P, i * 4 + 1, none⟩ = some (.int .i64 first)) (c2 : w.cell? ⟨P, i * 4 + 2, none⟩ = some (.slice ao n c)) (h0 : 0 ≤ first) (h1 : first + n ≤ 1152921504606846976) :
    Calls Tryz.prog 50 #[.pointer (some ⟨P, i * 4, none⟩)] w fun e w' => e = .returned (.int .i64 (first + n)) ∧ ∃ q, w' = w.drewN q := by
  go_enter Tryz.func50, Tryz.ntmps50
  go_wp2
  go_quiet (fail)
  go_wp2
  go_ret
  exact ⟨rfl, _, rfl⟩
end Go.Proofs.YtkcepkehgkkkbabGreatDoor

namespace Go.Proofs.YtkcepkehgkkkbabGreatDoor
open Go.RowKit
set_option linter.unusedVariables false

theorem All.free4 {P : Nat} {qs : List Qv} {cs : List Comp} {w : World} (h : All cs w) (hm : blkC P (flat qs) 74 ∈ cs) (j : Nat) : w.frozen? ⟨P, j, none⟩ = false := free_at (h.blk hm) j

/-- All four cells of a slot are written. -/
theorem All.setQ {P : Nat} {qs : List Qv} {cs : List Comp} {w : World} (h : All (blkC P (flat qs) 74 :: cs) w) {i : Nat} {q : Qv} (hq : qs[i]? = some q) (q' : Qv) :
    All (blkC P (flat (qs.set i q')) 74 :: cs) ((((w.setCell ⟨P, i * 4, none⟩ (.string q'.nm)).setCell ⟨P, i * 4 + 1, none⟩ (.int .i64 q'.first)).setCell ⟨P, i * 4 + 2, none⟩ q'.iv).setCell ⟨P, i * 4 + 3, none⟩ q'.gv) := by
  have hi : i < qs.length := (List.getElem?_eq_some_iff.1 hq).1
  have h0 := h.setBlk (i * 4) (.string q'.nm)
  have e0 := flat_set (v := .string q'.nm) (j := 0) (q' := ⟨q'.nm, q.first, q.iv, q.gv⟩) hq (by omega) rfl
  rw [Nat.add_zero] at e0
  rw [e0] at h0
  have q1 : (qs.set i ⟨q'.nm, q.first, q.iv, q.gv⟩)[i]? = some ⟨q'.nm, q.first, q.iv, q.gv⟩ := by simp [hi]
  have h1 := h0.setBlk (i * 4 + 1) (.int .i64 q'.first)
  rw [flat_set (v := .int .i64 q'.first) (j := 1) (q' := ⟨q'.nm, q'.first, q.iv, q.gv⟩) q1 (by omega) rfl, List.set_set] at h1
  have q2 : (qs.set i ⟨q'.nm, q'.first, q.iv, q.gv⟩)[i]? = some ⟨q'.nm, q'.first, q.iv, q.gv⟩ := by simp [hi]
  have h2 := h1.setBlk (i * 4 + 2) q'.iv
  rw [flat_set (v := q'.iv) (j := 2) (q' := ⟨q'.nm, q'.first, q'.iv, q.gv⟩) q2 (by omega) rfl, List.set_set] at h2
  have q3 : (qs.set i ⟨q'.nm, q'.first, q'.iv, q.gv⟩)[i]? = some ⟨q'.nm, q'.first, q'.iv, q.gv⟩ := by simp [hi]
  have h3 := h2.setBlk (i * 4 + 3) q'.gv
  rw [flat_set (v := q'.gv) (j := 3) (q' := q') q3 (by omega) rfl, List.set_set] at h3
  exact h3

theorem All.q0 {P : Nat} {qs : List Qv} {cs : List Comp} {w : World} (h : All cs w) (hm : blkC P (flat qs) 74 ∈ cs) {i : Nat} {q : Qv} (hq : qs[i]? = some q) : w.cell? ⟨P, i * 4, none⟩ = some (.string q.nm) := slot_cell (h.blk hm) hq 0 (by omega) rfl
theorem All.q1 {P : Nat} {qs : List Qv} {cs : List Comp} {w : World} (h : All cs w) (hm : blkC P (flat qs) 74 ∈ cs) {i : Nat} {q : Qv} (hq : qs[i]? = some q) : w.cell? ⟨P, i * 4 + 1, none⟩ = some (.int .i64 q.first) := slot_cell (h.blk hm) hq 1 (by omega) rfl
theorem All.q2 {P : Nat} {qs : List Qv} {cs : List Comp} {w : World} (h : All cs w) (hm : blkC P (flat qs) 74 ∈ cs) {i : Nat} {q : Qv} (hq : qs[i]? = some q) : w.cell? ⟨P, i * 4 + 2, none⟩ = some q.iv := slot_cell (h.blk hm) hq 2 (by omega) rfl
theorem All.q3 {P : Nat} {qs : List Qv} {cs : List Comp} {w : World} (h : All cs w) (hm : blkC P (flat qs) 74 ∈ cs) {i : Nat} {q : Qv} (hq : qs[i]? = some q) : w.cell? ⟨P, i * 4 + 3, none⟩ = some q.gv := slot_cell (h.blk hm) hq 3 (by omega) rfl

theorem All.two {c d : Comp} {cs : List Comp} {w : World} (h : All (c :: cs) w) : c.holds w := h.1.2.1

/-- The block of a result is written. -/
theorem All.setR {R : Nat} {a b c : Value} {cs : List Comp} {w : World} (h : All (blkC R [a, b, c] 59 :: cs) w) (x y z : Value) : All (blkC R [x, y, z] 59 :: cs) (((w.setCell ⟨R, 0, none⟩ x).setCell ⟨R, 1, none⟩ y).setCell ⟨R, 2, none⟩ z) := by
  have h1 := ((h.setBlk 0 x).setBlk 1 y).setBlk 2 z
  exact h1
theorem All.r0 {R : Nat} {a b c : Value} {cs : List Comp} {w : World} (h : All (blkC R [a, b, c] 59 :: cs) w) : w.cell? ⟨R, 0, none⟩ = some a := by rw [cell_at (h.1.2.1 : w.heap[R]? = some (.cells [a, b, c].toArray 59 (0, 0)))]; rfl
theorem All.r1 {R : Nat} {a b c : Value} {cs : List Comp} {w : World} (h : All (blkC R [a, b, c] 59 :: cs) w) : w.cell? ⟨R, 1, none⟩ = some b := by rw [cell_at (h.1.2.1 : w.heap[R]? = some (.cells [a, b, c].toArray 59 (0, 0)))]; rfl
theorem All.r2 {R : Nat} {a b c : Value} {cs : List Comp} {w : World} (h : All (blkC R [a, b, c] 59 :: cs) w) : w.cell? ⟨R, 2, none⟩ = some c := by rw [cell_at (h.1.2.1 : w.heap[R]? = some (.cells [a, b, c].toArray 59 (0, 0)))]; rfl
theorem All.rf {R : Nat} {a b c : Value} {cs : List Comp} {w : World} (h : All (blkC R [a, b, c] 59 :: cs) w) (j : Nat) : w.frozen? ⟨R, j, none⟩ = false := free_at (h.1.2.1 : w.heap[R]? = some (.cells [a, b, c].toArray 59 (0, 0))) j

theorem resV_cells (w : World) (r : Nat) (c n : Int) (s : Value) (h : w.heap[r]? = some (.cells #[.int .i64 c, .int .i64 n, s] 59 (0, 0))) : w.cell? ⟨r, 0, none⟩ = some (.int .i64 c) ∧ w.cell? ⟨r, 1, none⟩ = some (.int .i64 n) ∧ w.cell? ⟨r, 2, none⟩ = some s := by
  refine ⟨?_, ?_, ?_⟩ <;> (rw [cell_at h]; rfl)

/-- A slot's four cells may be read and written. -/
structure Four (w : World) (P i : Nat) (q : Qv) : Prop where
  c0 : w.cell? ⟨P, i * 4, none⟩ = some (.string q.nm)
  c1 : w.cell? ⟨P, i * 4 + 1, none⟩ = some (.int .i64 q.first)
  c2 : w.cell? ⟨P, i * 4 + 2, none⟩ = some q.iv
  c3 : w.cell? ⟨P, i * 4 + 3, none⟩ = some q.gv
  f : ∀ j, w.frozen? ⟨P, j, none⟩ = false
theorem All.four {P : Nat} {qs : List Qv} {cs : List Comp} {w : World} (h : All cs w) (hm : blkC P (flat qs) 74 ∈ cs) {i : Nat} {q : Qv} (hq : qs[i]? = some q) : Four w P i q := ⟨h.q0 hm hq, h.q1 hm hq, h.q2 hm hq, h.q3 hm hq, fun j => h.free4 hm j⟩

theorem newQ_at {P : Nat} {qs : List Qv} {cs : List Comp} {w : World} (h : All cs w) (hm : blkC P (flat qs) 74 ∈ cs) {i : Nat} {q : Qv} (hq : qs[i]? = some q) (nm : ByteArray) : Calls Tryz.prog 46 #[.string nm] w fun e w' => ∃ b, e = .returned (.agg #[.string nm, .int .i64 0, .slice none 0 0, .map (some b)]) ∧ Hid (All (mapC b 0 (.map []) :: cs) w') ∧ w'.cell? ⟨P, i * 4, none⟩ = some (.string q.nm) ∧ w'.cell? ⟨P, i * 4 + 1, none⟩ = some (.int .i64 q.first) ∧ w'.cell? ⟨P, i * 4 + 2, none⟩ = some q.iv ∧ w'.cell? ⟨P, i * 4 + 3, none⟩ = some q.gv ∧ w'.frozen? ⟨P, i * 4, none⟩ = false ∧ w'.frozen? ⟨P, i * 4 + 1, none⟩ = false ∧ w'.frozen? ⟨P, i * 4 + 2, none⟩ = false ∧ w'.frozen? ⟨P, i * 4 + 3, none⟩ = false :=
  (newQueue_any h nm).mono fun e w' ⟨b, h1, h2, _⟩ => by
    have F := h2.four (List.mem_cons_of_mem _ hm) hq
    exact ⟨b, h1, h2, F.c0, F.c1, F.c2, F.c3, F.f _, F.f _, F.f _, F.f _⟩

set_option maxHeartbeats 3200000 in
set_option maxRecDepth 1000000 in
theorem make_new {P : Nat} {qs : List Qv} {cs : List Comp} {w : World} (h : All (blkC P (flat qs) 74 :: cs) w) (h8 : qs.length = 8) {f : Nat} {q : Qv} (hf : findN qs ⟨#[]⟩ = f) (hq : qs[f]? = some q) (k : Int) (nm tx : ByteArray) (n m : Int) :
    Calls Tryz.prog 108 #[.pointer (some ⟨P, 0, none⟩), .int .i64 (-1), opV k nm tx n m] w fun e w' => ∃ b, e = .returned (.tuple #[resV 0 0 (.slice none 0 0), .int .i64 f]) ∧ All (blkC P (flat (qs.set f ⟨nm, 0, .slice none 0 0, .map (some b)⟩)) 74 :: mapC b 0 (.map []) :: cs) w' := by
  have hf8 : f < 8 := by have := (List.getElem?_eq_some_iff.1 hq).1; omega
  have A := fun o r => hid ((h.alloc o).addBlk [.int .i64 0, .int .i64 0, .slice none 0 0] 59 |>.alloc r)
  have H1 := hid (((h.alloc (opB k nm tx n m)).addBlk [.int .i64 0, .int .i64 0, .slice none 0 0] 59))
  have hsz : (w.alloc (opB k nm tx n m)).heap.size = w.heap.size + 1 := by simp
  rw [hsz] at H1
  have HO := hid ((heap_alloc_new w (opB k nm tx n m)))
  have hN : (f : Int) ≠ -1 := by omega
  have eN : ((f : Int) == -1) = false := by rw [beq_eq_false_iff_ne]; exact hN
  have HF := hid hf
  have HQ := hid hq
  clear A h hf hq hsz
  go_enter Tryz.func108, Tryz.ntmps108
  go_wp2_with fail
  refine (find_any (H1.out.blk (by simp)) h8 _).mono ?_
  rw [HF.out]
  rintro e w1 ⟨rfl, hw⟩
  have o1 : w1.cell? ⟨w.heap.size, 1, none⟩ = some (.string nm) := by
    rw [hw]
    have := cell_under (ba (w.alloc (opB k nm tx n m)) (.cells [Value.int .i64 0, .int .i64 0, .slice none 0 0].toArray 59)) (g := w.heap.size) (j := 1) (u := .string nm) (by simp) (by rw [cell_at HO.out]; rfl)
    exact this
  have H1 := hid (show All (blkC (w.heap.size + 1) [.int .i64 0, .int .i64 0, .slice none 0 0] 59 :: blkC P (flat qs) 74 :: cs) w1 from by rw [hw]; exact H1.out)
  clear hw HO
  go_wp2
  have AD := hid H1.out.drew
  clear H1
  have i1 : (0 : Int) ≤ (f : Int) := by omega
  have i2 : (f : Int) < 8 := by omega
  have i3 : ¬ (f : Int) < 0 := by omega
  have NQ := hid (newQ_at AD.out (List.mem_cons_of_mem _ List.mem_cons_self) HQ.out nm)
  go_region_law (go_simp; go_at_call 46; refine NQ.out.mono ?_; rintro e w3 ⟨b, rfl, A3, s0, s1, s2, s3, f0, f1, f2, f3⟩)
  have A4 := hid ((A3.out.perm (ds := blkC P (flat qs) 74 :: mapC b 0 (.map []) :: blkC (w.heap.size + 1) [.int .i64 0, .int .i64 0, .slice none 0 0] 59 :: cs) (List.perm_middle (l₁ := [mapC b 0 (.map []), blkC (w.heap.size + 1) [.int .i64 0, .int .i64 0, .slice none 0 0] 59]))).setQ HQ.out ⟨nm, 0, .slice none 0 0, .map (some b)⟩)
  simp only at A4
  generalize (((w3.setCell ⟨P, f * 4, none⟩ (.string nm)).setCell ⟨P, f * 4 + 1, none⟩ (.int .i64 0)).setCell ⟨P, f * 4 + 2, none⟩ (.slice none 0 0)).setCell ⟨P, f * 4 + 3, none⟩ (.map (some b)) = w4 at A4 ⊢
  clear s0 s1 s2 s3 f0 f1 f2 f3 A3 NQ AD
  have A5 := hid (A4.out.perm (ds := blkC (w.heap.size + 1) [.int .i64 0, .int .i64 0, .slice none 0 0] 59 :: blkC P (flat (qs.set f ⟨nm, 0, .slice none 0 0, .map (some b)⟩)) 74 :: mapC b 0 (.map []) :: cs) (List.perm_middle (l₁ := [blkC P (flat (qs.set f ⟨nm, 0, .slice none 0 0, .map (some b)⟩)) 74, mapC b 0 (.map [])])))
  clear A4
  have r0 := A5.out.r0
  have r1 := A5.out.r1
  have r2 := A5.out.r2
  have g0 := A5.out.rf 0
  have g1 := A5.out.rf 1
  have g2 := A5.out.rf 2
  have A6 := hid (A5.out.setR (.int .i64 0) (.int .i64 0) (.slice none 0 0))
  clear A5
  go_wp2
  generalize (((w4.setCell ⟨w.heap.size + 1, 0, none⟩ (.int .i64 0)).setCell ⟨w.heap.size + 1, 1, none⟩ (.int .i64 0)).setCell ⟨w.heap.size + 1, 2, none⟩ (.slice none 0 0)) = w5 at A6 ⊢
  clear r0 r1 r2
  have r0 := A6.out.r0
  have r1 := A6.out.r1
  have r2 := A6.out.r2
  refine bodyPost_ret (v := .tuple #[resV 0 0 (.slice none 0 0), .int .i64 f]) (by rw [results_cell_tmp rfl]; go_simp) rfl ?_
  exact ⟨rfl, b, A6.out.tail⟩
end Go.Proofs.YtkcepkehgkkkbabGreatDoor

namespace Go.Proofs.YtkcepkehgkkkbabGreatDoor
open Go.RowKit
set_option linter.unusedVariables false

theorem Tryz.info9 : (Tryz.prog.info? 9).map (fun i => (i.zero, i.size, i.bytes)) = some (some (.string ⟨#[]⟩), 1, 16) := by kernel_rfl
theorem Tryz.und57 : Tryz.prog.underlying 57 = some (.slice 9) := by kernel_rfl

abbrev txtV (l : List ByteArray) : List Value := l.map Value.string

/-- The one cell of a slot that holds the items is written. -/
theorem All.setI {P : Nat} {qs : List Qv} {cs : List Comp} {w : World} (h : All (blkC P (flat qs) 74 :: cs) w) {i : Nat} {q : Qv} (hq : qs[i]? = some q) (iv' : Value) :
    All (blkC P (flat (qs.set i ⟨q.nm, q.first, iv', q.gv⟩)) 74 :: cs) (w.setCell ⟨P, i * 4 + 2, none⟩ iv') := by
  have h2 := h.setBlk (i * 4 + 2) iv'
  rw [flat_set (v := iv') (j := 2) (q' := ⟨q.nm, q.first, iv', q.gv⟩) hq (by omega) rfl] at h2
  exact h2

/-- An item was laid behind a queue's own. -/
theorem push_after {P R i : Nat} {qs : List Qv} {a b c : Value} {ao : Option Addr} {cp : Nat} {items : List ByteArray} {tx : ByteArray} {cs : List Comp} {w w4 : World} {g cap : Nat} {q : Qv}
    (h : All (blkC R [a, b, c] 59 :: blkC P (flat qs) 74 :: ownC 9 (.slice ao items.length cp) (txtV items) :: cs) w) (hq : qs[i]? = some q)
    (hown : w4.ownsRow 0 9 1 (.slice (some ⟨g, 0, none⟩) (items.length + 1) cap) (items.length + 1) (txtV items ++ [.string tx])) (hg : (w.alloc (.cells #[.string tx] 9)).grownBy w4 (Value.ownBlock (.slice ao items.length cp))) (hat : Value.ownBlock (.slice ao items.length cp) = some g ∨ g = w.heap.size + 1) :
    Hid (All (blkC P (flat qs) 74 :: ownC 9 (.slice (some ⟨g, 0, none⟩) (items.length + 1) cap) (txtV (items ++ [tx])) :: blkC R [a, b, c] 59 :: cs) w4) ∧ w4.cell? ⟨P, i * 4 + 2, none⟩ = some q.iv ∧ w4.frozen? ⟨P, i * 4 + 2, none⟩ = false := by
  have h1 := (h.alloc (.cells #[.string tx] 9)).perm (ds := ownC 9 (.slice ao items.length cp) (txtV items) :: blkC R [a, b, c] 59 :: blkC P (flat qs) 74 :: cs) (List.perm_middle (l₁ := [blkC R [a, b, c] 59, blkC P (flat qs) 74]))
  have e : txtV items ++ [.string tx] = txtV (items ++ [tx]) := by simp [txtV]
  have el : (txtV (items ++ [tx])).length = items.length + 1 := by simp [txtV]
  rw [e] at hown
  have h2 := h1.ownGrow (v' := .slice (some ⟨g, 0, none⟩) (items.length + 1) cap) (vs' := txtV (items ++ [tx])) (base := 0) (by rw [el]; exact hown) hg (by
    rcases hat with e | e
    · exact Or.inl e.symm
    · right; simp [Value.ownBlock, e])
  have h3 := h2.perm (ds := blkC P (flat qs) 74 :: ownC 9 (.slice (some ⟨g, 0, none⟩) (items.length + 1) cap) (txtV (items ++ [tx])) :: blkC R [a, b, c] 59 :: cs) (List.perm_middle (l₁ := [ownC 9 (.slice (some ⟨g, 0, none⟩) (items.length + 1) cap) (txtV (items ++ [tx])), blkC R [a, b, c] 59]))
  exact ⟨h3, h3.q2 List.mem_cons_self hq, h3.free4 List.mem_cons_self _⟩

set_option maxHeartbeats 3200000 in
set_option maxRecDepth 1000000 in
theorem push_ok {P : Nat} {qs : List Qv} {cs : List Comp} {w : World} {i : Nat} {q : Qv} {items : List ByteArray} (h : All (blkC P (flat qs) 74 :: ownC 9 q.iv (txtV items) :: cs) w) (h8 : qs.length = 8) (hq : qs[i]? = some q) (hl : items.length < 32) (hf0 : 0 ≤ q.first) (hf1 : q.first + items.length < 1099511627776) (k : Int) (nm tx : ByteArray) (n m : Int) :
    Calls Tryz.prog 110 #[.pointer (some ⟨P, 0, none⟩), .int .i64 i, opV k nm tx n m] w fun e w' => ∃ iv', e = .returned (.tuple #[resV 0 (q.first + items.length) (.slice none 0 0), .int .i64 i]) ∧ All (blkC P (flat (qs.set i ⟨q.nm, q.first, iv', q.gv⟩)) 74 :: ownC 9 iv' (txtV (items ++ [tx])) :: cs) w' := by
  have hi8 : i < 8 := by have := (List.getElem?_eq_some_iff.1 hq).1; omega
  obtain ⟨i0, hi, hz0, hz1, hz2⟩ := info_parts Tryz.info9
  obtain ⟨nm0, first, iv, gv⟩ := q
  simp only at h hf0 hf1
  have hrow : w.ownsRow 0 9 1 iv (txtV items).length (txtV items) := h.2.2.1.2.1
  obtain ⟨ao, c, eo⟩ := owns_form hrow
  rw [List.length_map] at eo
  subst eo
  have hsz : (w.alloc (opB k nm tx n m)).heap.size = w.heap.size + 1 := by simp
  have H1 := hid (((h.alloc (opB k nm tx n m)).addBlk [.int .i64 0, .int .i64 0, .slice none 0 0] 59))
  rw [hsz] at H1
  have HO := heap_alloc_new w (opB k nm tx n m)
  have o2 : ((w.alloc (opB k nm tx n m)).alloc (.cells [Value.int .i64 0, .int .i64 0, .slice none 0 0].toArray 59)).cell? ⟨w.heap.size, 2, none⟩ = some (.string tx) := cell_under (ba _ _) (by simp) (by rw [cell_at HO]; rfl)
  have HQ := hid hq
  have i1 : (0 : Int) ≤ (i : Int) := by omega
  have i2 : (i : Int) < 8 := by omega
  have i3 : ¬ (i : Int) < 0 := by omega
  have e32 : ((items.length : Int) == 32) = false := by rw [beq_eq_false_iff_ne]; omega
  have eM : ((first + (items.length : Int)) == 1099511627776) = false := by rw [beq_eq_false_iff_ne]; omega
  clear h hq hsz HO hrow
  go_enter Tryz.func110, Tryz.ntmps110
  go_wp2_with fail
  refine (end_q (i := i) (H1.out.q1 (List.mem_cons_of_mem _ List.mem_cons_self) HQ.out) (H1.out.q2 (List.mem_cons_of_mem _ List.mem_cons_self) HQ.out) hf0 (by simp only; omega)).mono ?_
  rintro e w1 ⟨rfl, nq, hw⟩
  have o2 : w1.cell? ⟨w.heap.size, 2, none⟩ = some (.string tx) := by rw [hw]; exact o2
  have H1 := hid (show All (blkC (w.heap.size + 1) [.int .i64 0, .int .i64 0, .slice none 0 0] 59 :: blkC P (flat qs) 74 :: ownC 9 (.slice ao items.length c) (txtV items) :: cs) w1 from by rw [hw]; exact H1.out.drewN nq)
  clear hw
  have s2 := H1.out.q2 (List.mem_cons_of_mem _ List.mem_cons_self) HQ.out
  have f2 := H1.out.free4 (qs := qs) (P := P) (List.mem_cons_of_mem _ List.mem_cons_self) (i * 4 + 2)
  have hP : P < w1.heap.size := (H1.out.mem (List.mem_cons_of_mem _ List.mem_cons_self)).2.2 P (by simp [blkC])
  have R := hid (show w1.drew.ownsRow 0 9 1 (.slice ao items.length c) items.length (txtV items) from by have := (H1.out.drew).2.2.2.2.1.2.1; simpa [ownC] using this)
  have H2 := hid H1.out.drew
  clear H1
  go_wp2
  go_region_law (refine step_append_lies _ (by rfl) (.tmp 32) (.tmp 35) 57 (by rfl) 0 9 i0 (.string ⟨#[]⟩) 1 16 Tryz.und57 hi hz0 hz1 hz2 rfl (by decide) (.slice ao items.length c) items.length (txtV items) (by rfl) (R.out.alloc _) ⟨w1.heap.size, 0, none⟩ 1 1 [.string tx] (by rfl) rfl (cell_one_new _ _ _) (fun u hu => by simp at hu; subst hu; rfl) (by omega) (by unfold maxLen; omega) (by omega) (by omega) (w1.heap.size + 1) (by simp) ?_; intro g cap w4 hown hgr hat hlt4; obtain ⟨A5, q2, f5⟩ := push_after H2.out HQ.out hown hgr hat; clear hown hgr hat hlt4)
  all_goals (
    have A6 := hid (A5.out.setI HQ.out (.slice (some ⟨g, 0, none⟩) (items.length + 1) cap))
    generalize w4.setCell ⟨P, i * 4 + 2, none⟩ (.slice (some ⟨g, 0, none⟩) (items.length + 1) cap) = w5 at A6 ⊢
    clear A5 q2 f5 H2 R o2 s2 f2
    have A7 := hid (A6.out.perm (ds := blkC (w.heap.size + 1) [.int .i64 0, .int .i64 0, .slice none 0 0] 59 :: blkC P (flat (qs.set i ⟨nm0, first, .slice (some ⟨g, 0, none⟩) (items.length + 1) cap, gv⟩)) 74 :: ownC 9 (.slice (some ⟨g, 0, none⟩) (items.length + 1) cap) (txtV (items ++ [tx])) :: cs) (List.perm_middle (l₁ := [blkC P (flat (qs.set i ⟨nm0, first, .slice (some ⟨g, 0, none⟩) (items.length + 1) cap, gv⟩)) 74, ownC 9 (.slice (some ⟨g, 0, none⟩) (items.length + 1) cap) (txtV (items ++ [tx]))])))
    clear A6
    have r0 := A7.out.r0
    have r1 := A7.out.r1
    have r2 := A7.out.r2
    have g0 := A7.out.rf 0
    have g1 := A7.out.rf 1
    have g2 := A7.out.rf 2
    have A8 := hid (A7.out.setR (.int .i64 0) (.int .i64 (first + items.length)) (.slice none 0 0))
    clear A7
    go_wp2
    generalize (((w5.setCell ⟨w.heap.size + 1, 0, none⟩ (.int .i64 0)).setCell ⟨w.heap.size + 1, 1, none⟩ (.int .i64 (first + items.length))).setCell ⟨w.heap.size + 1, 2, none⟩ (.slice none 0 0)) = w6 at A8 ⊢
    clear r0 r1 r2
    have r0 := A8.out.r0
    have r1 := A8.out.r1
    have r2 := A8.out.r2
    refine bodyPost_ret (v := .tuple #[resV 0 (first + items.length) (.slice none 0 0), .int .i64 i]) (by rw [results_cell_tmp rfl]; go_simp) rfl ?_
    exact ⟨_, rfl, A8.out.tail⟩)
end Go.Proofs.YtkcepkehgkkkbabGreatDoor

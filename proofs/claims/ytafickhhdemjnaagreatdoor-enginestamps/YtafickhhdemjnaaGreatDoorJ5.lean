import Derived.Test.YtafickhhdemjnaaGreatDoorJ4
import Derived.Test.YtafickhhdemjnaaGreatDoorDeeds
namespace Go.Proofs.YtafickhhdemjnaaGreatDoor
open Go.RowKit
set_option linter.unusedVariables false

/-- A slot, as its four cells have it. -/
structure Qv where
  nm : ByteArray
  first : Int
  iv : Value
  gv : Value
def qcells (q : Qv) : List Value := [.string q.nm, .int .i64 q.first, q.iv, q.gv]
def flat (qs : List Qv) : List Value := qs.flatMap qcells
abbrev noQ : Qv := ⟨⟨#[]⟩, 0, .slice none 0 0, .map none⟩

theorem flat_at {qs : List Qv} {i : Nat} {q : Qv} (h : qs[i]? = some q) (j : Nat) (hj : j < 4) : (flat qs)[i * 4 + j]? = (qcells q)[j]? := by
  induction qs generalizing i with
  | nil => simp at h
  | cons p qs ih =>
    cases i with
    | zero =>
      simp at h; subst h
      simp only [flat, List.flatMap_cons, Nat.zero_mul, Nat.zero_add]
      rw [List.getElem?_append_left (by simpa [qcells] using hj)]
    | succ i =>
      simp only [List.getElem?_cons_succ] at h
      simp only [flat, List.flatMap_cons]
      rw [List.getElem?_append_right (by simp [qcells]; omega)]
      have : (i + 1) * 4 + j - (qcells p).length = i * 4 + j := by simp [qcells]; omega
      rw [this]
      exact ih h
theorem flat_len (qs : List Qv) : (flat qs).length = qs.length * 4 := by
  induction qs with
  | nil => rfl
  | cons p qs ih => simp only [flat, List.flatMap_cons, List.length_append, List.length_cons] at ih ⊢; rw [ih]; simp [qcells]; omega
theorem flat_set {qs : List Qv} {i : Nat} {q q' : Qv} {v : Value} {j : Nat} (h : qs[i]? = some q) (hj : j < 4) (e : (qcells q).set j v = qcells q') : (flat qs).set (i * 4 + j) v = flat (qs.set i q') := by
  induction qs generalizing i with
  | nil => simp at h
  | cons p qs ih =>
    cases i with
    | zero =>
      simp at h; subst h
      simp only [flat, List.flatMap_cons, Nat.zero_mul, Nat.zero_add, List.set_cons_zero]
      rw [List.set_append_left (h := by simpa [qcells] using hj), e]
    | succ i =>
      simp only [List.getElem?_cons_succ] at h
      simp only [flat, List.flatMap_cons, List.set_cons_succ] at ih ⊢
      rw [List.set_append_right (h := by simp [qcells]; omega)]
      have : (i + 1) * 4 + j - (qcells p).length = i * 4 + j := by simp [qcells]; omega
      rw [this]
      exact congrArg _ (ih h)

/-- A slot's cells. -/
theorem slot_cell {w : World} {P : Nat} {qs : List Qv} (hb : w.heap[P]? = some (.cells (flat qs).toArray 159 (0, 0))) {i : Nat} {q : Qv} (h : qs[i]? = some q) (j : Nat) (hj : j < 4) {v : Value} (hv : (qcells q)[j]? = some v) : w.cell? ⟨P, i * 4 + j, none⟩ = some v := by
  rw [cell_at hb, List.getElem?_toArray, flat_at h j hj, hv]

/-- Where a name lies. -/
def findN (qs : List Qv) (nm : ByteArray) : Int := match qs.findIdx? (fun q => q.nm.toList == nm.toList) with
  | some i => (i : Int)
  | none => -1

theorem findN_at {qs : List Qv} {nm : ByteArray} {k : Nat} {q : Qv} (hq : qs[k]? = some q) (he : (q.nm.toList == nm.toList) = true) (hb : ∀ j p, j < k → qs[j]? = some p → (p.nm.toList == nm.toList) = false) : findN qs nm = k := by
  have : qs.findIdx? (fun q => q.nm.toList == nm.toList) = some k := by
    rw [List.findIdx?_eq_some_iff_getElem]
    obtain ⟨hk, e⟩ := List.getElem?_eq_some_iff.1 hq
    refine ⟨hk, by rw [e]; exact he, fun j hj => ?_⟩
    rw [hb j _ hj (List.getElem?_eq_getElem _)]; simp
  rw [findN, this]
theorem findN_none {qs : List Qv} {nm : ByteArray} (hb : ∀ p ∈ qs, (p.nm.toList == nm.toList) = false) : findN qs nm = -1 := by
  have : qs.findIdx? (fun q => q.nm.toList == nm.toList) = none := by
    rw [List.findIdx?_eq_none_iff]
    exact hb
  rw [findN, this]

set_option maxHeartbeats 1600000 in
set_option maxRecDepth 1000000 in
theorem find_any {w : World} {P : Nat} {qs : List Qv} (hb : w.heap[P]? = some (.cells (flat qs).toArray 159 (0, 0))) (h8 : qs.length = 8) (nm : ByteArray) :
    Calls Tryz.prog 119 #[.pointer (some ⟨P, 0, none⟩), .string nm] w fun e w' => e = .returned (.int .i64 (findN qs nm)) ∧ w' = w := by
  have HB := hid hb
  clear hb
  go_enter Tryz.func119, Tryz.ntmps119
  go_wp2
  go_loopw [6] (fun iv wr => ∃ k : Nat, iv = .int .i64 (k : Int) ∧ k ≤ 8 ∧ Hid (∀ j p, j < k → qs[j]? = some p → (p.nm.toList == nm.toList) = false) ∧ wr = w) (fun iv _ => 8 - (intOf iv).toNat)
  case atStart => exact ⟨0, rfl, by omega, fun j p hj => absurd hj (by omega), rfl⟩
  case round =>
    obtain ⟨k, rfl, hk, hbef, rfl⟩ := hrel
    by_cases hlt : k < 8
    · obtain ⟨q, hq⟩ : ∃ q, qs[k]? = some q := ⟨_, List.getElem?_eq_getElem (by omega)⟩
      have c0 : wr.cell? ⟨P, k * 4, none⟩ = some (.string q.nm) := slot_cell HB.out hq 0 (by omega) rfl
      have HQ := hid hq
      clear hq
      cases he : (q.nm.toList == nm.toList) with
      | true =>
        have HE := hid he
        go_wp2
        go_ret
        exact ⟨by rw [findN_at HQ.out HE.out hbef.out]; rfl, rfl⟩
      | false =>
        have HE := hid he
        go_wp2
        go_roundw
        case rel => exact ⟨k + 1, by go_num, by omega, fun j p hj hp => by rcases Nat.lt_succ_iff_lt_or_eq.1 hj with h | h; exact hbef.out j p h hp; subst h; rw [HQ.out] at hp; cases hp; exact HE.out, trivial⟩
        case measure => simp [intOf]; omega
    · obtain rfl : k = 8 := by omega
      go_wp2
      go_ret
      refine ⟨by rw [findN_none]; rfl; intro p hp; obtain ⟨j, hj, rfl⟩ := List.getElem_of_mem hp; exact hbef.out j _ (by omega) (List.getElem?_eq_getElem hj), rfl⟩

abbrev zero32 : List Value := flat [noQ, noQ, noQ, noQ, noQ, noQ, noQ, noQ]

set_option maxRecDepth 1000000 in
theorem New_any {cs : List Comp} {w : World} (h : All cs w) : Calls Tryz.prog 77 #[] w fun e w' => ∃ P, e = .returned (.pointer (some ⟨P, 0, none⟩)) ∧ All (blkC P zero32 159 :: cs) w' ∧ Below w.heap.size w w' ∧ w.heap.size ≤ P := by
  have H := hid (h.addBlk zero32 159)
  have B := hid (ba w (.cells zero32.toArray 159))
  clear h
  go_enter Tryz.func77, Tryz.ntmps77
  go_wp2
  go_ret
  exact ⟨_, rfl, H.out, B.out, Nat.le_refl _⟩

/-- A map of a queue's groups. -/
noncomputable abbrev rE : Value → Option (DataW Unit × List MemPlace) := plainElem Tryz.prog 3
def mapC (b n : Nat) (D : DataW Unit) : Comp := ⟨fun w => w.ownsMap Tryz.prog 9 rE b n D, [b]⟩
theorem mapC_good (b n : Nat) (D : DataW Unit) : (mapC b n D).Good := by
  rintro w w' ⟨es, clock, hb, r⟩ hl hk
  exact ⟨es, clock, (hk b (by simp [mapC])).trans hb, r⟩

/-- A map that was just made. -/
theorem All.addMap {cs : List Comp} {w : World} (h : All cs w) : All (mapC w.heap.size 0 (.map []) :: cs) (w.alloc (.map #[] 0)) := by
  refine h.add (Fr.below (ba w _)) (mapC_good _ _ _) (World.ownsMap_made w Tryz.prog 9 rE) (fun k hk => ?_)
  have hk' : k = w.heap.size := by simpa [mapC] using hk
  subst hk'
  exact ⟨Nat.le_refl _, by simp⟩

set_option maxRecDepth 1000000 in
theorem newQueue_any {cs : List Comp} {w : World} (h : All cs w) (nm : ByteArray) : Calls Tryz.prog 184 #[.string nm] w fun e w' => ∃ b, e = .returned (.agg #[.string nm, .int .i64 0, .slice none 0 0, .map (some b)]) ∧ All (mapC b 0 (.map []) :: cs) w' ∧ Below w.heap.size w w' ∧ w.heap.size ≤ b := by
  have hmm := @run_makeMap Tryz.prog
  have H := fun o => hid ((h.alloc o).addMap)
  have B := fun o => hid (b2 (ba w o) (ba (w.alloc o) (.map #[] 0)))
  have hsz : ∀ o, (w.alloc o).heap.size = w.heap.size + 1 := fun o => by simp
  simp only [hsz] at H
  clear h hsz
  go_enter Tryz.func184, Tryz.ntmps184
  go_wp2
  refine bodyPost_ret (v := .agg #[.string nm, .int .i64 0, .slice none 0 0, .map (some (w.heap.size + 1))]) (by simp only [results, Tryz.f184]; go_simp) rfl ?_
  exact ⟨_, rfl, (H _).out, (B _).out, by omega⟩

set_option maxRecDepth 1000000 in
theorem end_q {w : World} {P i : Nat} {first : Int} {ao : Option Addr} {n c : Nat} (c1 : w.cell? ⟨P, i * 4 + 1, none⟩ = some (.int .i64 first)) (c2 : w.cell? ⟨P, i * 4 + 2, none⟩ = some (.slice ao n c)) (h0 : 0 ≤ first) (h1 : first + n ≤ 1152921504606846976) :
    Calls Tryz.prog 185 #[.pointer (some ⟨P, i * 4, none⟩)] w fun e w' => e = .returned (.int .i64 (first + n)) ∧ ∃ q, w' = w.drewN q := by
  go_enter Tryz.func185, Tryz.ntmps185
  go_wp2
  go_quiet (fail)
  go_wp2
  go_ret
  exact ⟨rfl, _, rfl⟩
end Go.Proofs.YtafickhhdemjnaaGreatDoor

namespace Go.Proofs.YtafickhhdemjnaaGreatDoor
open Go.RowKit
set_option linter.unusedVariables false

theorem All.free4 {P : Nat} {qs : List Qv} {cs : List Comp} {w : World} (h : All cs w) (hm : blkC P (flat qs) 159 ∈ cs) (j : Nat) : w.frozen? ⟨P, j, none⟩ = false := free_at (h.blk hm) j

/-- All four cells of a slot are written. -/
theorem All.setQ {P : Nat} {qs : List Qv} {cs : List Comp} {w : World} (h : All (blkC P (flat qs) 159 :: cs) w) {i : Nat} {q : Qv} (hq : qs[i]? = some q) (q' : Qv) :
    All (blkC P (flat (qs.set i q')) 159 :: cs) ((((w.setCell ⟨P, i * 4, none⟩ (.string q'.nm)).setCell ⟨P, i * 4 + 1, none⟩ (.int .i64 q'.first)).setCell ⟨P, i * 4 + 2, none⟩ q'.iv).setCell ⟨P, i * 4 + 3, none⟩ q'.gv) := by
  have hi : i < qs.length := (List.getElem?_eq_some_iff.1 hq).1
  have h0 := h.setBlk (i * 4) (.string q'.nm)
  have e0 := flat_set (v := .string q'.nm) (j := 0) (q' := ⟨q'.nm, q.first, q.iv, q.gv⟩) hq (by omega) rfl
  rw [Nat.add_zero] at e0
  rw [e0] at h0
  have q1 : (qs.set i ⟨q'.nm, q.first, q.iv, q.gv⟩)[i]? = some ⟨q'.nm, q.first, q.iv, q.gv⟩ := by simp [hi]
  have h1 := h0.setBlk (i * 4 + 1) (.int .i64 q'.first)
  rw [flat_set (v := .int .i64 q'.first) (j := 1) (q' := ⟨q'.nm, q'.first, q.iv, q.gv⟩) q1 (by omega) rfl, List.set_set] at h1
  have q2 : (qs.set i ⟨q'.nm, q'.first, q.iv, q.gv⟩)[i]? = some ⟨q'.nm, q'.first, q.iv, q.gv⟩ := by simp [hi]
  have h2 := h1.setBlk (i * 4 + 2) q'.iv
  rw [flat_set (v := q'.iv) (j := 2) (q' := ⟨q'.nm, q'.first, q'.iv, q.gv⟩) q2 (by omega) rfl, List.set_set] at h2
  have q3 : (qs.set i ⟨q'.nm, q'.first, q'.iv, q.gv⟩)[i]? = some ⟨q'.nm, q'.first, q'.iv, q.gv⟩ := by simp [hi]
  have h3 := h2.setBlk (i * 4 + 3) q'.gv
  rw [flat_set (v := q'.gv) (j := 3) (q' := q') q3 (by omega) rfl, List.set_set] at h3
  exact h3

theorem All.q0 {P : Nat} {qs : List Qv} {cs : List Comp} {w : World} (h : All cs w) (hm : blkC P (flat qs) 159 ∈ cs) {i : Nat} {q : Qv} (hq : qs[i]? = some q) : w.cell? ⟨P, i * 4, none⟩ = some (.string q.nm) := slot_cell (h.blk hm) hq 0 (by omega) rfl
theorem All.q1 {P : Nat} {qs : List Qv} {cs : List Comp} {w : World} (h : All cs w) (hm : blkC P (flat qs) 159 ∈ cs) {i : Nat} {q : Qv} (hq : qs[i]? = some q) : w.cell? ⟨P, i * 4 + 1, none⟩ = some (.int .i64 q.first) := slot_cell (h.blk hm) hq 1 (by omega) rfl
theorem All.q2 {P : Nat} {qs : List Qv} {cs : List Comp} {w : World} (h : All cs w) (hm : blkC P (flat qs) 159 ∈ cs) {i : Nat} {q : Qv} (hq : qs[i]? = some q) : w.cell? ⟨P, i * 4 + 2, none⟩ = some q.iv := slot_cell (h.blk hm) hq 2 (by omega) rfl
theorem All.q3 {P : Nat} {qs : List Qv} {cs : List Comp} {w : World} (h : All cs w) (hm : blkC P (flat qs) 159 ∈ cs) {i : Nat} {q : Qv} (hq : qs[i]? = some q) : w.cell? ⟨P, i * 4 + 3, none⟩ = some q.gv := slot_cell (h.blk hm) hq 3 (by omega) rfl

theorem All.two {c d : Comp} {cs : List Comp} {w : World} (h : All (c :: cs) w) : c.holds w := h.1.2.1

/-- The block of a result is written. -/
theorem All.setR {R : Nat} {a b c : Value} {cs : List Comp} {w : World} (h : All (blkC R [a, b, c] 56 :: cs) w) (x y z : Value) : All (blkC R [x, y, z] 56 :: cs) (((w.setCell ⟨R, 0, none⟩ x).setCell ⟨R, 1, none⟩ y).setCell ⟨R, 2, none⟩ z) := by
  have h1 := ((h.setBlk 0 x).setBlk 1 y).setBlk 2 z
  exact h1
theorem All.r0 {R : Nat} {a b c : Value} {cs : List Comp} {w : World} (h : All (blkC R [a, b, c] 56 :: cs) w) : w.cell? ⟨R, 0, none⟩ = some a := by rw [cell_at (h.1.2.1 : w.heap[R]? = some (.cells [a, b, c].toArray 56 (0, 0)))]; rfl
theorem All.r1 {R : Nat} {a b c : Value} {cs : List Comp} {w : World} (h : All (blkC R [a, b, c] 56 :: cs) w) : w.cell? ⟨R, 1, none⟩ = some b := by rw [cell_at (h.1.2.1 : w.heap[R]? = some (.cells [a, b, c].toArray 56 (0, 0)))]; rfl
theorem All.r2 {R : Nat} {a b c : Value} {cs : List Comp} {w : World} (h : All (blkC R [a, b, c] 56 :: cs) w) : w.cell? ⟨R, 2, none⟩ = some c := by rw [cell_at (h.1.2.1 : w.heap[R]? = some (.cells [a, b, c].toArray 56 (0, 0)))]; rfl
theorem All.rf {R : Nat} {a b c : Value} {cs : List Comp} {w : World} (h : All (blkC R [a, b, c] 56 :: cs) w) (j : Nat) : w.frozen? ⟨R, j, none⟩ = false := free_at (h.1.2.1 : w.heap[R]? = some (.cells [a, b, c].toArray 56 (0, 0))) j

theorem resV_cells (w : World) (r : Nat) (c n : Int) (s : Value) (h : w.heap[r]? = some (.cells #[.int .i64 c, .int .i64 n, s] 56 (0, 0))) : w.cell? ⟨r, 0, none⟩ = some (.int .i64 c) ∧ w.cell? ⟨r, 1, none⟩ = some (.int .i64 n) ∧ w.cell? ⟨r, 2, none⟩ = some s := by
  refine ⟨?_, ?_, ?_⟩ <;> (rw [cell_at h]; rfl)

/-- A slot's four cells may be read and written. -/
structure Four (w : World) (P i : Nat) (q : Qv) : Prop where
  c0 : w.cell? ⟨P, i * 4, none⟩ = some (.string q.nm)
  c1 : w.cell? ⟨P, i * 4 + 1, none⟩ = some (.int .i64 q.first)
  c2 : w.cell? ⟨P, i * 4 + 2, none⟩ = some q.iv
  c3 : w.cell? ⟨P, i * 4 + 3, none⟩ = some q.gv
  f : ∀ j, w.frozen? ⟨P, j, none⟩ = false
theorem All.four {P : Nat} {qs : List Qv} {cs : List Comp} {w : World} (h : All cs w) (hm : blkC P (flat qs) 159 ∈ cs) {i : Nat} {q : Qv} (hq : qs[i]? = some q) : Four w P i q := ⟨h.q0 hm hq, h.q1 hm hq, h.q2 hm hq, h.q3 hm hq, fun j => h.free4 hm j⟩

theorem newQ_at {P : Nat} {qs : List Qv} {cs : List Comp} {w : World} (h : All cs w) (hm : blkC P (flat qs) 159 ∈ cs) {i : Nat} {q : Qv} (hq : qs[i]? = some q) (nm : ByteArray) : Calls Tryz.prog 184 #[.string nm] w fun e w' => ∃ b, e = .returned (.agg #[.string nm, .int .i64 0, .slice none 0 0, .map (some b)]) ∧ Hid (All (mapC b 0 (.map []) :: cs) w') ∧ w'.cell? ⟨P, i * 4, none⟩ = some (.string q.nm) ∧ w'.cell? ⟨P, i * 4 + 1, none⟩ = some (.int .i64 q.first) ∧ w'.cell? ⟨P, i * 4 + 2, none⟩ = some q.iv ∧ w'.cell? ⟨P, i * 4 + 3, none⟩ = some q.gv ∧ w'.frozen? ⟨P, i * 4, none⟩ = false ∧ w'.frozen? ⟨P, i * 4 + 1, none⟩ = false ∧ w'.frozen? ⟨P, i * 4 + 2, none⟩ = false ∧ w'.frozen? ⟨P, i * 4 + 3, none⟩ = false :=
  (newQueue_any h nm).mono fun e w' ⟨b, h1, h2, _⟩ => by
    have F := h2.four (List.mem_cons_of_mem _ hm) hq
    exact ⟨b, h1, h2, F.c0, F.c1, F.c2, F.c3, F.f _, F.f _, F.f _, F.f _⟩

set_option maxHeartbeats 3200000 in
set_option maxRecDepth 1000000 in
theorem make_new {P : Nat} {qs : List Qv} {cs : List Comp} {w : World} (h : All (blkC P (flat qs) 159 :: cs) w) (h8 : qs.length = 8) {f : Nat} {q : Qv} (hf : findN qs ⟨#[]⟩ = f) (hq : qs[f]? = some q) (k : Int) (nm tx : ByteArray) (n m : Int) :
    Calls Tryz.prog 149 #[.pointer (some ⟨P, 0, none⟩), .int .i64 (-1), opV k nm tx n m] w fun e w' => ∃ b, e = .returned (.tuple #[resV 0 0 (.slice none 0 0), .int .i64 f]) ∧ All (blkC P (flat (qs.set f ⟨nm, 0, .slice none 0 0, .map (some b)⟩)) 159 :: mapC b 0 (.map []) :: cs) w' := by
  have hf8 : f < 8 := by have := (List.getElem?_eq_some_iff.1 hq).1; omega
  have A := fun o r => hid ((h.alloc o).addBlk [.int .i64 0, .int .i64 0, .slice none 0 0] 56 |>.alloc r)
  have H1 := hid (((h.alloc (opB k nm tx n m)).addBlk [.int .i64 0, .int .i64 0, .slice none 0 0] 56))
  have hsz : (w.alloc (opB k nm tx n m)).heap.size = w.heap.size + 1 := by simp
  rw [hsz] at H1
  have HO := hid ((heap_alloc_new w (opB k nm tx n m)))
  have hN : (f : Int) ≠ -1 := by omega
  have eN : ((f : Int) == -1) = false := by rw [beq_eq_false_iff_ne]; exact hN
  have HF := hid hf
  have HQ := hid hq
  clear A h hf hq hsz
  go_enter Tryz.func149, Tryz.ntmps149
  go_wp2_with fail
  refine (find_any (H1.out.blk (by simp)) h8 _).mono ?_
  rw [HF.out]
  rintro e w1 ⟨rfl, hw⟩
  have o1 : w1.cell? ⟨w.heap.size, 1, none⟩ = some (.string nm) := by
    rw [hw]
    have := cell_under (ba (w.alloc (opB k nm tx n m)) (.cells [Value.int .i64 0, .int .i64 0, .slice none 0 0].toArray 56)) (g := w.heap.size) (j := 1) (u := .string nm) (by simp) (by rw [cell_at HO.out]; rfl)
    exact this
  have H1 := hid (show All (blkC (w.heap.size + 1) [.int .i64 0, .int .i64 0, .slice none 0 0] 56 :: blkC P (flat qs) 159 :: cs) w1 from by rw [hw]; exact H1.out)
  clear hw HO
  go_wp2
  have AD := hid H1.out.drew
  clear H1
  have i1 : (0 : Int) ≤ (f : Int) := by omega
  have i2 : (f : Int) < 8 := by omega
  have i3 : ¬ (f : Int) < 0 := by omega
  have NQ := hid (newQ_at AD.out (List.mem_cons_of_mem _ List.mem_cons_self) HQ.out nm)
  go_region_law (go_simp; go_at_call 184; refine NQ.out.mono ?_; rintro e w3 ⟨b, rfl, A3, s0, s1, s2, s3, f0, f1, f2, f3⟩)
  have A4 := hid ((A3.out.perm (ds := blkC P (flat qs) 159 :: mapC b 0 (.map []) :: blkC (w.heap.size + 1) [.int .i64 0, .int .i64 0, .slice none 0 0] 56 :: cs) (List.perm_middle (l₁ := [mapC b 0 (.map []), blkC (w.heap.size + 1) [.int .i64 0, .int .i64 0, .slice none 0 0] 56]))).setQ HQ.out ⟨nm, 0, .slice none 0 0, .map (some b)⟩)
  simp only at A4
  generalize (((w3.setCell ⟨P, f * 4, none⟩ (.string nm)).setCell ⟨P, f * 4 + 1, none⟩ (.int .i64 0)).setCell ⟨P, f * 4 + 2, none⟩ (.slice none 0 0)).setCell ⟨P, f * 4 + 3, none⟩ (.map (some b)) = w4 at A4 ⊢
  clear s0 s1 s2 s3 f0 f1 f2 f3 A3 NQ AD
  have A5 := hid (A4.out.perm (ds := blkC (w.heap.size + 1) [.int .i64 0, .int .i64 0, .slice none 0 0] 56 :: blkC P (flat (qs.set f ⟨nm, 0, .slice none 0 0, .map (some b)⟩)) 159 :: mapC b 0 (.map []) :: cs) (List.perm_middle (l₁ := [blkC P (flat (qs.set f ⟨nm, 0, .slice none 0 0, .map (some b)⟩)) 159, mapC b 0 (.map [])])))
  clear A4
  have r0 := A5.out.r0
  have r1 := A5.out.r1
  have r2 := A5.out.r2
  have g0 := A5.out.rf 0
  have g1 := A5.out.rf 1
  have g2 := A5.out.rf 2
  have A6 := hid (A5.out.setR (.int .i64 0) (.int .i64 0) (.slice none 0 0))
  clear A5
  go_wp2
  generalize (((w4.setCell ⟨w.heap.size + 1, 0, none⟩ (.int .i64 0)).setCell ⟨w.heap.size + 1, 1, none⟩ (.int .i64 0)).setCell ⟨w.heap.size + 1, 2, none⟩ (.slice none 0 0)) = w5 at A6 ⊢
  clear r0 r1 r2
  have r0 := A6.out.r0
  have r1 := A6.out.r1
  have r2 := A6.out.r2
  refine bodyPost_ret (v := .tuple #[resV 0 0 (.slice none 0 0), .int .i64 f]) (by rw [results_cell_tmp rfl]; go_simp) rfl ?_
  exact ⟨rfl, b, A6.out.tail⟩
end Go.Proofs.YtafickhhdemjnaaGreatDoor

namespace Go.Proofs.YtafickhhdemjnaaGreatDoor
open Go.RowKit
set_option linter.unusedVariables false

theorem Tryz.info9 : (Tryz.prog.info? 9).map (fun i => (i.zero, i.size, i.bytes)) = some (some (.string ⟨#[]⟩), 1, 16) := by kernel_rfl
theorem Tryz.und54 : Tryz.prog.underlying 54 = some (.slice 9) := by kernel_rfl

abbrev txtV (l : List ByteArray) : List Value := l.map Value.string

/-- The one cell of a slot that holds the items is written. -/
theorem All.setI {P : Nat} {qs : List Qv} {cs : List Comp} {w : World} (h : All (blkC P (flat qs) 159 :: cs) w) {i : Nat} {q : Qv} (hq : qs[i]? = some q) (iv' : Value) :
    All (blkC P (flat (qs.set i ⟨q.nm, q.first, iv', q.gv⟩)) 159 :: cs) (w.setCell ⟨P, i * 4 + 2, none⟩ iv') := by
  have h2 := h.setBlk (i * 4 + 2) iv'
  rw [flat_set (v := iv') (j := 2) (q' := ⟨q.nm, q.first, iv', q.gv⟩) hq (by omega) rfl] at h2
  exact h2

/-- An item was laid behind a queue's own. -/
theorem push_after {P R i : Nat} {qs : List Qv} {a b c : Value} {ao : Option Addr} {cp : Nat} {items : List ByteArray} {tx : ByteArray} {cs : List Comp} {w w4 : World} {g cap : Nat} {q : Qv}
    (h : All (blkC R [a, b, c] 56 :: blkC P (flat qs) 159 :: ownC 9 (.slice ao items.length cp) (txtV items) :: cs) w) (hq : qs[i]? = some q)
    (hown : w4.ownsRow 0 9 1 (.slice (some ⟨g, 0, none⟩) (items.length + 1) cap) (items.length + 1) (txtV items ++ [.string tx])) (hg : (w.alloc (.cells #[.string tx] 9)).grownBy w4 (Value.ownBlock (.slice ao items.length cp))) (hat : Value.ownBlock (.slice ao items.length cp) = some g ∨ g = w.heap.size + 1) :
    Hid (All (blkC P (flat qs) 159 :: ownC 9 (.slice (some ⟨g, 0, none⟩) (items.length + 1) cap) (txtV (items ++ [tx])) :: blkC R [a, b, c] 56 :: cs) w4) ∧ w4.cell? ⟨P, i * 4 + 2, none⟩ = some q.iv ∧ w4.frozen? ⟨P, i * 4 + 2, none⟩ = false := by
  have h1 := (h.alloc (.cells #[.string tx] 9)).perm (ds := ownC 9 (.slice ao items.length cp) (txtV items) :: blkC R [a, b, c] 56 :: blkC P (flat qs) 159 :: cs) (List.perm_middle (l₁ := [blkC R [a, b, c] 56, blkC P (flat qs) 159]))
  have e : txtV items ++ [.string tx] = txtV (items ++ [tx]) := by simp [txtV]
  have el : (txtV (items ++ [tx])).length = items.length + 1 := by simp [txtV]
  rw [e] at hown
  have h2 := h1.ownGrow (v' := .slice (some ⟨g, 0, none⟩) (items.length + 1) cap) (vs' := txtV (items ++ [tx])) (base := 0) (by rw [el]; exact hown) hg (by
    rcases hat with e | e
    · exact Or.inl e.symm
    · right; simp [Value.ownBlock, e])
  have h3 := h2.perm (ds := blkC P (flat qs) 159 :: ownC 9 (.slice (some ⟨g, 0, none⟩) (items.length + 1) cap) (txtV (items ++ [tx])) :: blkC R [a, b, c] 56 :: cs) (List.perm_middle (l₁ := [ownC 9 (.slice (some ⟨g, 0, none⟩) (items.length + 1) cap) (txtV (items ++ [tx])), blkC R [a, b, c] 56]))
  exact ⟨h3, h3.q2 List.mem_cons_self hq, h3.free4 List.mem_cons_self _⟩

set_option maxHeartbeats 3200000 in
set_option maxRecDepth 1000000 in
theorem push_ok {P : Nat} {qs : List Qv} {cs : List Comp} {w : World} {i : Nat} {q : Qv} {items : List ByteArray} (h : All (blkC P (flat qs) 159 :: ownC 9 q.iv (txtV items) :: cs) w) (h8 : qs.length = 8) (hq : qs[i]? = some q) (hl : items.length < 32) (hf0 : 0 ≤ q.first) (hf1 : q.first + items.length < 1099511627776) (k : Int) (nm tx : ByteArray) (n m : Int) :
    Calls Tryz.prog 151 #[.pointer (some ⟨P, 0, none⟩), .int .i64 i, opV k nm tx n m] w fun e w' => ∃ iv', e = .returned (.tuple #[resV 0 (q.first + items.length) (.slice none 0 0), .int .i64 i]) ∧ All (blkC P (flat (qs.set i ⟨q.nm, q.first, iv', q.gv⟩)) 159 :: ownC 9 iv' (txtV (items ++ [tx])) :: cs) w' := by
  have hi8 : i < 8 := by have := (List.getElem?_eq_some_iff.1 hq).1; omega
  obtain ⟨i0, hi, hz0, hz1, hz2⟩ := info_parts Tryz.info9
  obtain ⟨nm0, first, iv, gv⟩ := q
  simp only at h hf0 hf1
  have hrow : w.ownsRow 0 9 1 iv (txtV items).length (txtV items) := h.2.2.1.2.1
  obtain ⟨ao, c, eo⟩ := owns_form hrow
  rw [List.length_map] at eo
  subst eo
  have hsz : (w.alloc (opB k nm tx n m)).heap.size = w.heap.size + 1 := by simp
  have H1 := hid (((h.alloc (opB k nm tx n m)).addBlk [.int .i64 0, .int .i64 0, .slice none 0 0] 56))
  rw [hsz] at H1
  have HO := heap_alloc_new w (opB k nm tx n m)
  have o2 : ((w.alloc (opB k nm tx n m)).alloc (.cells [Value.int .i64 0, .int .i64 0, .slice none 0 0].toArray 56)).cell? ⟨w.heap.size, 2, none⟩ = some (.string tx) := cell_under (ba _ _) (by simp) (by rw [cell_at HO]; rfl)
  have HQ := hid hq
  have i1 : (0 : Int) ≤ (i : Int) := by omega
  have i2 : (i : Int) < 8 := by omega
  have i3 : ¬ (i : Int) < 0 := by omega
  have e32 : ((items.length : Int) == 32) = false := by rw [beq_eq_false_iff_ne]; omega
  have eM : ((first + (items.length : Int)) == 1099511627776) = false := by rw [beq_eq_false_iff_ne]; omega
  clear h hq hsz HO hrow
  go_enter Tryz.func151, Tryz.ntmps151
  go_wp2_with fail
  refine (end_q (i := i) (H1.out.q1 (List.mem_cons_of_mem _ List.mem_cons_self) HQ.out) (H1.out.q2 (List.mem_cons_of_mem _ List.mem_cons_self) HQ.out) hf0 (by simp only; omega)).mono ?_
  rintro e w1 ⟨rfl, nq, hw⟩
  have o2 : w1.cell? ⟨w.heap.size, 2, none⟩ = some (.string tx) := by rw [hw]; exact o2
  have H1 := hid (show All (blkC (w.heap.size + 1) [.int .i64 0, .int .i64 0, .slice none 0 0] 56 :: blkC P (flat qs) 159 :: ownC 9 (.slice ao items.length c) (txtV items) :: cs) w1 from by rw [hw]; exact H1.out.drewN nq)
  clear hw
  have s2 := H1.out.q2 (List.mem_cons_of_mem _ List.mem_cons_self) HQ.out
  have f2 := H1.out.free4 (qs := qs) (P := P) (List.mem_cons_of_mem _ List.mem_cons_self) (i * 4 + 2)
  have hP : P < w1.heap.size := (H1.out.mem (List.mem_cons_of_mem _ List.mem_cons_self)).2.2 P (by simp [blkC])
  have R := hid (show w1.drew.ownsRow 0 9 1 (.slice ao items.length c) items.length (txtV items) from by have := (H1.out.drew).2.2.2.2.1.2.1; simpa [ownC] using this)
  have H2 := hid H1.out.drew
  clear H1
  go_wp2
  go_region_law (refine step_append_lies _ (by rfl) (.tmp 32) (.tmp 35) 54 (by rfl) 0 9 i0 (.string ⟨#[]⟩) 1 16 Tryz.und54 hi hz0 hz1 hz2 rfl (by decide) (.slice ao items.length c) items.length (txtV items) (by rfl) (R.out.alloc _) ⟨w1.heap.size, 0, none⟩ 1 1 [.string tx] (by rfl) rfl (cell_one_new _ _ _) (fun u hu => by simp at hu; subst hu; rfl) (by omega) (by unfold maxLen; omega) (by omega) (by omega) (w1.heap.size + 1) (by simp) ?_; intro g cap w4 hown hgr hat hlt4; obtain ⟨A5, q2, f5⟩ := push_after H2.out HQ.out hown hgr hat; clear hown hgr hat hlt4)
  all_goals (
    have A6 := hid (A5.out.setI HQ.out (.slice (some ⟨g, 0, none⟩) (items.length + 1) cap))
    generalize w4.setCell ⟨P, i * 4 + 2, none⟩ (.slice (some ⟨g, 0, none⟩) (items.length + 1) cap) = w5 at A6 ⊢
    clear A5 q2 f5 H2 R o2 s2 f2
    have A7 := hid (A6.out.perm (ds := blkC (w.heap.size + 1) [.int .i64 0, .int .i64 0, .slice none 0 0] 56 :: blkC P (flat (qs.set i ⟨nm0, first, .slice (some ⟨g, 0, none⟩) (items.length + 1) cap, gv⟩)) 159 :: ownC 9 (.slice (some ⟨g, 0, none⟩) (items.length + 1) cap) (txtV (items ++ [tx])) :: cs) (List.perm_middle (l₁ := [blkC P (flat (qs.set i ⟨nm0, first, .slice (some ⟨g, 0, none⟩) (items.length + 1) cap, gv⟩)) 159, ownC 9 (.slice (some ⟨g, 0, none⟩) (items.length + 1) cap) (txtV (items ++ [tx]))])))
    clear A6
    have r0 := A7.out.r0
    have r1 := A7.out.r1
    have r2 := A7.out.r2
    have g0 := A7.out.rf 0
    have g1 := A7.out.rf 1
    have g2 := A7.out.rf 2
    have A8 := hid (A7.out.setR (.int .i64 0) (.int .i64 (first + items.length)) (.slice none 0 0))
    clear A7
    go_wp2
    generalize (((w5.setCell ⟨w.heap.size + 1, 0, none⟩ (.int .i64 0)).setCell ⟨w.heap.size + 1, 1, none⟩ (.int .i64 (first + items.length))).setCell ⟨w.heap.size + 1, 2, none⟩ (.slice none 0 0)) = w6 at A8 ⊢
    clear r0 r1 r2
    have r0 := A8.out.r0
    have r1 := A8.out.r1
    have r2 := A8.out.r2
    refine bodyPost_ret (v := .tuple #[resV 0 (first + items.length) (.slice none 0 0), .int .i64 i]) (by rw [results_cell_tmp rfl]; go_simp) rfl ?_
    exact ⟨_, rfl, A8.out.tail⟩)
end Go.Proofs.YtafickhhdemjnaaGreatDoor

namespace Go.Proofs.YtafickhhdemjnaaGreatDoor
open Go.RowKit
open Go.Maps (Keyed)
set_option linter.unusedVariables false

theorem zero3 (w : World) : (zeroValue 3).run Tryz.prog w = .ok (.int .i64 0) w := by kernel_rfl
theorem lawS : Keyed Tryz.prog 9 := Maps.string_keyed Tryz.underlying9
theorem Tryz.und154 : Tryz.prog.underlying 154 = some (.map 9 3) := by kernel_rfl
/-- What a group takes next. -/
def leftD (D : DataW Unit) (kl : Lit) : Int := match D.atKey kl (.lit (.int .i64 0)) with
  | .lit (.int _ n) => n
  | _ => 0
theorem leftD_of {D : DataW Unit} {kl : Lit} {v : Value} {ps : List MemPlace} (h : rE v = some (D.atKey kl (.lit (.int .i64 0)), ps)) : v = .int .i64 (leftD D kl) := by
  obtain ⟨a, rfl, e, _⟩ := plainElem_int_inv Tryz.underlying3 h
  simp only [Prod.mk.injEq] at e
  unfold leftD
  rw [e.1]
/-- 'v, ok := m[k]'. -/
theorem lookS {w : World} {b n : Nat} {D : DataW Unit} (h : w.ownsMap Tryz.prog 9 rE b n D) {key : Value} {kl : Lit} (hkey : keyOf Tryz.prog 9 key = some kl) : (Instr.lookup 154 (.map (some b)) key true).run Tryz.prog w = .ok (.tuple #[.int .i64 (leftD D kl), .bool (Maps.has D kl)]) w := by
  obtain ⟨v, ps, h1, h2⟩ := h.look_ok lawS Tryz.und154 (zero3 w) (zd := .lit (.int .i64 0)) (zp := []) (plainElem_int Tryz.underlying3 (by decide)) hkey
  rw [h1, leftD_of h2]

/-- The map has turned. -/
theorem All.mapTurn {b n n' : Nat} {D D' : DataW Unit} {cs : List Comp} {w w' : World} (h : All (mapC b n D :: cs) w) (hg : w.grownBy w' (some b)) (ho : w'.ownsMap Tryz.prog 9 rE b n' D') : All (mapC b n' D' :: cs) w' := by
  have hb : b < w.heap.size := h.1.2.2 b (by simp [mapC])
  refine h.turn ((grown_fr hg).mono (fun k hk => by simp at hk; simp [mapC, hk])) (mapC_good _ _ _) ho (fun k hk => Or.inl (by simpa [mapC] using hk)) (fun k hk => ?_)
  have hk' : k = b := by simpa [mapC] using hk
  subst hk'
  exact Nat.lt_of_lt_of_le hb hg.size
theorem mem2 {c d : Comp} {cs : List Comp} : d ∈ c :: d :: cs := List.mem_cons_of_mem _ List.mem_cons_self

/-- A list of one text, just made. -/
theorem All.addOne {cs : List Comp} {w : World} (h : All cs w) (t : ByteArray) : All (ownC 9 (.slice (some ⟨w.heap.size, 0, none⟩) 1 1) (txtV [t]) :: cs) (w.alloc (.cells #[.string t] 9)) := by
  refine h.addOwn (ba w _) ?_
  exact World.ownsRow_lit w #[.string t] 1 (Nat.le_refl _) (by unfold maxLen; omega) rfl

set_option maxHeartbeats 3200000 in
set_option maxRecDepth 1000000 in
/-- A group that wasn't there takes the first item. -/
theorem take_new {P b nb : Nat} {qs : List Qv} {cs : List Comp} {w : World} {i : Nat} {nm0 : ByteArray} {first : Int} {iv : Value} {D : DataW Unit} {item : ByteArray} {items : List ByteArray} (h : All (blkC P (flat qs) 159 :: ownC 9 iv (txtV (item :: items)) :: mapC b nb D :: cs) w) (h8 : qs.length = 8) (hq : qs[i]? = some ⟨nm0, first, iv, .map (some b)⟩) (hl : items.length < 32) (hf0 : 0 ≤ first) (hf1 : first + items.length < 1099511627776) (k : Int) (nm tx : ByteArray) (n m : Int) (hs : tx.size ≤ maxLen) (hhas : Maps.has D (.string tx.data.toList) = false) (hlen : Maps.size D < 4) (hnb : nb < 1048576) :
    Calls Tryz.prog 153 #[.pointer (some ⟨P, 0, none⟩), .int .i64 i, opV k nm tx n m] w fun e w' => ∃ so, e = .returned (.tuple #[resV 0 first (.slice so 1 1), .int .i64 i]) ∧ All (blkC P (flat qs) 159 :: ownC 9 iv (txtV (item :: items)) :: mapC b (nb + 1) (D.put (.string tx.data.toList) (.lit (.int .i64 (first + 1)))) :: ownC 9 (.slice so 1 1) (txtV [item]) :: cs) w' := by
  have hi8 : i < 8 := by have := (List.getElem?_eq_some_iff.1 hq).1; omega
  have hrow : w.ownsRow 0 9 1 iv (txtV (item :: items)).length (txtV (item :: items)) := h.2.2.1.2.1
  obtain ⟨ao, c, eo⟩ := owns_form hrow
  rw [List.length_map, List.length_cons] at eo
  subst eo
  have hsz : (w.alloc (opB k nm tx n m)).heap.size = w.heap.size + 1 := by simp
  have H1 := hid (((h.alloc (opB k nm tx n m)).addBlk [.int .i64 0, .int .i64 0, .slice none 0 0] 56))
  rw [hsz] at H1
  have HO := heap_alloc_new w (opB k nm tx n m)
  have o2 := hid (show ((w.alloc (opB k nm tx n m)).alloc (.cells [Value.int .i64 0, .int .i64 0, .slice none 0 0].toArray 56)).cell? ⟨w.heap.size, 2, none⟩ = some (.string tx) from cell_under (ba _ _) (by simp) (by rw [cell_at HO]; rfl))
  have HQ := hid hq
  have i1 : (0 : Int) ≤ (i : Int) := by omega
  have i2 : (i : Int) < 8 := by omega
  have i3 : ¬ (i : Int) < 0 := by omega
  have hkey := WideMaps.keyOf_string_mk Tryz.underlying9 hs
  clear h hq hsz HO hrow
  generalize hW : (w.alloc (opB k nm tx n m)).alloc (.cells [Value.int .i64 0, .int .i64 0, .slice none 0 0].toArray 56) = w1 at H1 o2
  have c1 := H1.out.q1 (List.mem_cons_of_mem _ List.mem_cons_self) HQ.out
  have c2 := H1.out.q2 (List.mem_cons_of_mem _ List.mem_cons_self) HQ.out
  have c3 := H1.out.q3 (List.mem_cons_of_mem _ List.mem_cons_self) HQ.out
  have o3 := o2.out
  have hl1 := lookS (H1.out.drew.2.2.2.2.2.2.1.2.1) hkey
  rw [hhas] at hl1
  have c3d : w1.drew.cell? ⟨P, i * 4 + 3, none⟩ = some (.map (some b)) := c3
  have o3d : w1.drew.cell? ⟨w.heap.size, 2, none⟩ = some (.string tx) := o3
  go_enter Tryz.func153, Tryz.ntmps153
  go_wp2
  go_region
  have H2 := hid H1.out.drew
  have o4 := hid (show (w1.drew).cell? ⟨w.heap.size, 2, none⟩ = some (.string tx) from o2.out)
  clear H1 o2 o3 c1 c2 c3 hl1 hW c3d o3d
  generalize w1.drew = w2 at H2 o4 ⊢
  have c1 := H2.out.q1 mem2 HQ.out
  have c2 := H2.out.q2 mem2 HQ.out
  have c3 := H2.out.q3 mem2 HQ.out
  have hlm := (H2.out.2.2.2.2.2.2.1.2.1 : w2.ownsMap Tryz.prog 9 rE b nb D).len Tryz.und154
  have e4 : ((Maps.size D : Int) == 4) = false := by rw [beq_eq_false_iff_ne]; omega
  go_wp2_with fail
  refine (end_q (i := i) c1 c2 hf0 (by omega)).mono ?_
  rintro e w3 ⟨rfl, nq2, hw⟩
  have H3 := hid (show All _ w3 from by rw [hw]; exact H2.out.drewN nq2)
  have o5 := hid (show w3.cell? ⟨w.heap.size, 2, none⟩ = some (.string tx) from by rw [hw]; exact o4.out)
  clear hw H2 o4 c1 c2 c3 hlm
  have eE : (first == first + ((items.length + 1 : Nat) : Int)) = false := by rw [beq_eq_false_iff_ne]; omega
  have c3 := H3.out.q3 mem2 HQ.out
  have d3 : w3.drew.cell? ⟨P, i * 4 + 3, none⟩ = some (.map (some b)) := c3
  have o6 := o5.out
  have o7 : w3.drew.cell? ⟨w.heap.size, 2, none⟩ = some (.string tx) := o6
  have hwf : (Lit.int .i64 (first + 1)).wf = true := WalkArith.wf_i64 (by omega)
  obtain ⟨w4, hup, ho4, hg4⟩ := World.ownsMap.update (H3.out.drew.2.2.2.2.2.2.1.2.1 : w3.drew.ownsMap Tryz.prog 9 rE b nb D) lawS Tryz.und154 (by unfold maxLen; omega) (val := .int .i64 (first + 1)) hkey (plainElem_int Tryz.underlying3 hwf)
  have H4 := hid (((H3.out.drew).perm (ds := mapC b nb D :: blkC (w.heap.size + 1) [.int .i64 0, .int .i64 0, .slice none 0 0] 56 :: blkC P (flat qs) 159 :: ownC 9 (.slice ao (items.length + 1) c) (txtV (item :: items)) :: cs) (List.perm_middle (l₁ := [blkC (w.heap.size + 1) [.int .i64 0, .int .i64 0, .slice none 0 0] 56, blkC P (flat qs) 159, ownC 9 (.slice ao (items.length + 1) c) (txtV (item :: items))]))).mapTurn hg4 ho4)
  clear ho4 hg4 H3 o5
  go_wp2
  go_region
  clear c3 d3 o6 o7 hup
  have H5 := hid (H4.out.perm (ds := blkC (w.heap.size + 1) [.int .i64 0, .int .i64 0, .slice none 0 0] 56 :: blkC P (flat qs) 159 :: ownC 9 (.slice ao (items.length + 1) c) (txtV (item :: items)) :: mapC b (nb + 1) (D.put (.string tx.data.toList) (.lit (.int .i64 (first + 1)))) :: cs) (List.perm_middle (l₁ := [blkC (w.heap.size + 1) [.int .i64 0, .int .i64 0, .slice none 0 0] 56, blkC P (flat qs) 159, ownC 9 (.slice ao (items.length + 1) c) (txtV (item :: items))])).symm)
  clear H4
  have row := (H5.out.2.2.2.2.1.2.1 : w4.ownsRow 0 9 1 (.slice ao (items.length + 1) c) (txtV (item :: items)).length (txtV (item :: items)))
  obtain ⟨g, ea, hc0, _⟩ := owns_at row (k := 0) (u := .string item) rfl
  have hg := H5.out.2.2.2.2.1.2.2 g (by rw [ea]; simp [ownC, Value.ownBlock])
  have hP : P < w4.heap.size := (H5.out.mem mem2).2.2 P (by simp [blkC])
  have hR : w.heap.size + 1 < w4.heap.size := (H5.out.mem List.mem_cons_self).2.2 _ (by simp [blkC])
  subst ea
  have c1 : w4.drew.cell? ⟨P, i * 4 + 1, none⟩ = some (.int .i64 first) := H5.out.q1 mem2 HQ.out
  have c2 : w4.drew.cell? ⟨P, i * 4 + 2, none⟩ = some (.slice (some ⟨g, 0, none⟩) (items.length + 1) c) := H5.out.q2 mem2 HQ.out
  have hc0 : w4.drew.cell? ⟨g, 0, none⟩ = some (.string item) := hc0
  have r0 : w4.drew.cell? ⟨w.heap.size + 1, 0, none⟩ = some (.int .i64 0) := H5.out.r0
  have r1 : w4.drew.cell? ⟨w.heap.size + 1, 1, none⟩ = some (.int .i64 0) := H5.out.r1
  have r2 : w4.drew.cell? ⟨w.heap.size + 1, 2, none⟩ = some (.slice none 0 0) := H5.out.r2
  have g0 : w4.drew.frozen? ⟨w.heap.size + 1, 0, none⟩ = false := H5.out.rf 0
  have g1 : w4.drew.frozen? ⟨w.heap.size + 1, 1, none⟩ = false := H5.out.rf 1
  have g2 : w4.drew.frozen? ⟨w.heap.size + 1, 2, none⟩ = false := H5.out.rf 2
  clear row
  have R0 : w4.cell? ⟨w.heap.size + 1, 0, none⟩ = some (.int .i64 0) := r0
  have R1 : w4.cell? ⟨w.heap.size + 1, 1, none⟩ = some (.int .i64 0) := r1
  have R2 : w4.cell? ⟨w.heap.size + 1, 2, none⟩ = some (.slice none 0 0) := r2
  have G0 : w4.frozen? ⟨w.heap.size + 1, 0, none⟩ = false := g0
  have G1 : w4.frozen? ⟨w.heap.size + 1, 1, none⟩ = false := g1
  have G2 : w4.frozen? ⟨w.heap.size + 1, 2, none⟩ = false := g2
  have C1 : w4.cell? ⟨P, i * 4 + 1, none⟩ = some (.int .i64 first) := c1
  have C2 : w4.cell? ⟨P, i * 4 + 2, none⟩ = some (.slice (some ⟨g, 0, none⟩) (items.length + 1) c) := c2
  have C0 : w4.cell? ⟨g, 0, none⟩ = some (.string item) := hc0
  have A7 := hid ((H5.out.setR (.int .i64 0) (.int .i64 first) (.slice (some ⟨w4.heap.size, 0, none⟩) 1 1)).addOne item).drew
  have hsz4 : (((w4.setCell ⟨w.heap.size + 1, 0, none⟩ (.int .i64 0)).setCell ⟨w.heap.size + 1, 1, none⟩ (.int .i64 first)).setCell ⟨w.heap.size + 1, 2, none⟩ (.slice (some ⟨w4.heap.size, 0, none⟩) 1 1)).heap.size = w4.heap.size := by simp [World.setCell]
  rw [hsz4] at A7
  have A7 := hid A7
  clear hsz4
  go_wp2
  go_region
  generalize ((((w4.setCell ⟨w.heap.size + 1, 0, none⟩ (.int .i64 0)).setCell ⟨w.heap.size + 1, 1, none⟩ (.int .i64 first)).setCell ⟨w.heap.size + 1, 2, none⟩ (.slice (some ⟨w4.heap.size, 0, none⟩) 1 1)).alloc (.cells #[.string item] 9)).drew = w5 at A7 ⊢
  clear r0 r1 r2 g0 g1 g2 R0 R1 R2 G0 G1 G2 C0 C1 C2 c1 c2 hc0
  have A8 := hid (A7.out.swap)
  have r0 := A8.out.r0
  have r1 := A8.out.r1
  have r2 := A8.out.r2
  go_wp2
  refine bodyPost_ret (v := .tuple #[resV 0 first (.slice (some ⟨w4.heap.size, 0, none⟩) 1 1), .int .i64 i]) (by rw [results_cell_tmp rfl]; go_simp) rfl ?_
  refine ⟨_, rfl, ?_⟩
  exact A8.out.tail.perm (List.perm_middle (l₁ := [blkC P (flat qs) 159, ownC 9 (.slice (some ⟨g, 0, none⟩) (items.length + 1) c) (txtV (item :: items)), mapC b (nb + 1) (D.put (.string tx.data.toList) (.lit (.int .i64 (first + 1))))])).symm
end Go.Proofs.YtafickhhdemjnaaGreatDoor

namespace Go.Proofs.YtafickhhdemjnaaGreatDoor
open Go.RowKit
set_option linter.unusedVariables false

set_option maxHeartbeats 1600000 in
set_option maxRecDepth 1000000 in
theorem make_there {P : Nat} {qs : List Qv} {cs : List Comp} {w : World} (h : All (blkC P (flat qs) 159 :: cs) w) (h8 : qs.length = 8) {at' : Int} (ha : at' ≠ -1) (k : Int) (nm tx : ByteArray) (n m : Int) :
    Calls Tryz.prog 149 #[.pointer (some ⟨P, 0, none⟩), .int .i64 at', opV k nm tx n m] w fun e w' => e = .returned (.tuple #[resV 2 0 (.slice none 0 0), .int .i64 (-1)]) ∧ All (blkC P (flat qs) 159 :: cs) w' := by
  have hsz : (w.alloc (opB k nm tx n m)).heap.size = w.heap.size + 1 := by simp
  have H1 := hid (((h.alloc (opB k nm tx n m)).addBlk [.int .i64 0, .int .i64 0, .slice none 0 0] 56))
  rw [hsz] at H1
  clear hsz
  have ea : (at' != -1) = true := by simpa using ha
  clear h ha
  go_enter Tryz.func149, Tryz.ntmps149
  go_wp2_with fail
  refine (find_any (H1.out.blk mem2) h8 ⟨#[]⟩).mono ?_
  rintro e w1 ⟨rfl, hw⟩
  have H2 := hid (show All (blkC (w.heap.size + 1) [.int .i64 0, .int .i64 0, .slice none 0 0] 56 :: blkC P (flat qs) 159 :: cs) w1 from by rw [hw]; exact H1.out)
  clear hw H1
  have r0 := H2.out.r0
  have r1 := H2.out.r1
  have r2 := H2.out.r2
  have g0 := H2.out.rf 0
  have g1 := H2.out.rf 1
  have g2 := H2.out.rf 2
  have AE := hid (H2.out.setR (.int .i64 2) (.int .i64 0) (.slice none 0 0))
  clear H2 
  go_wp2
  generalize (((w1.setCell ⟨w.heap.size + 1, 0, none⟩ (.int .i64 2)).setCell ⟨w.heap.size + 1, 1, none⟩ (.int .i64 0)).setCell ⟨w.heap.size + 1, 2, none⟩ (.slice none 0 0)) = we at AE ⊢
  clear r0 r1 r2
  have r0 := AE.out.r0
  have r1 := AE.out.r1
  have r2 := AE.out.r2
  refine bodyPost_ret (v := .tuple #[resV 2 0 (.slice none 0 0), .int .i64 (-1)]) (by rw [results_cell_tmp rfl]; go_simp) rfl ?_
  exact ⟨rfl, AE.out.tail⟩

set_option maxHeartbeats 1600000 in
set_option maxRecDepth 1000000 in
theorem make_full {P : Nat} {qs : List Qv} {cs : List Comp} {w : World} (h : All (blkC P (flat qs) 159 :: cs) w) (h8 : qs.length = 8) (hf : findN qs ⟨#[]⟩ = -1) (k : Int) (nm tx : ByteArray) (n m : Int) :
    Calls Tryz.prog 149 #[.pointer (some ⟨P, 0, none⟩), .int .i64 (-1), opV k nm tx n m] w fun e w' => e = .returned (.tuple #[resV 3 0 (.slice none 0 0), .int .i64 (-1)]) ∧ All (blkC P (flat qs) 159 :: cs) w' := by
  have hsz : (w.alloc (opB k nm tx n m)).heap.size = w.heap.size + 1 := by simp
  have H1 := hid (((h.alloc (opB k nm tx n m)).addBlk [.int .i64 0, .int .i64 0, .slice none 0 0] 56))
  rw [hsz] at H1
  clear hsz
  have HF := hid hf
  clear h hf
  go_enter Tryz.func149, Tryz.ntmps149
  go_wp2_with fail
  refine (find_any (H1.out.blk mem2) h8 ⟨#[]⟩).mono ?_
  rw [HF.out]
  rintro e w1 ⟨rfl, hw⟩
  have H2 := hid (show All (blkC (w.heap.size + 1) [.int .i64 0, .int .i64 0, .slice none 0 0] 56 :: blkC P (flat qs) 159 :: cs) w1 from by rw [hw]; exact H1.out)
  clear hw H1
  have r0 := H2.out.r0
  have r1 := H2.out.r1
  have r2 := H2.out.r2
  have g0 := H2.out.rf 0
  have g1 := H2.out.rf 1
  have g2 := H2.out.rf 2
  have AE := hid (H2.out.setR (.int .i64 3) (.int .i64 0) (.slice none 0 0))
  clear H2 
  go_wp2
  generalize (((w1.setCell ⟨w.heap.size + 1, 0, none⟩ (.int .i64 3)).setCell ⟨w.heap.size + 1, 1, none⟩ (.int .i64 0)).setCell ⟨w.heap.size + 1, 2, none⟩ (.slice none 0 0)) = we at AE ⊢
  clear r0 r1 r2
  have r0 := AE.out.r0
  have r1 := AE.out.r1
  have r2 := AE.out.r2
  refine bodyPost_ret (v := .tuple #[resV 3 0 (.slice none 0 0), .int .i64 (-1)]) (by rw [results_cell_tmp rfl]; go_simp) rfl ?_
  exact ⟨rfl, AE.out.tail⟩

set_option maxHeartbeats 1600000 in
set_option maxRecDepth 1000000 in
theorem drop_any {P : Nat} {qs : List Qv} {cs : List Comp} {w : World} (h : All (blkC P (flat qs) 159 :: cs) w) (h8 : qs.length = 8) {i : Nat} {q : Qv} (hq : qs[i]? = some q) (k : Int) (nm tx : ByteArray) (n m : Int) :
    Calls Tryz.prog 150 #[.pointer (some ⟨P, 0, none⟩), .int .i64 i, opV k nm tx n m] w fun e w' => e = .returned (.tuple #[resV 0 0 (.slice none 0 0), .int .i64 i]) ∧ All (blkC P (flat (qs.set i noQ)) 159 :: cs) w' := by
  have hi8 : i < 8 := by have := (List.getElem?_eq_some_iff.1 hq).1; omega
  have hsz : (w.alloc (opB k nm tx n m)).heap.size = w.heap.size + 1 := by simp
  have H1 := hid (((h.alloc (opB k nm tx n m)).addBlk [.int .i64 0, .int .i64 0, .slice none 0 0] 56))
  rw [hsz] at H1
  clear hsz
  have i1 : (0 : Int) ≤ (i : Int) := by omega
  have i2 : (i : Int) < 8 := by omega
  have i3 : ¬ (i : Int) < 0 := by omega
  have F := H1.out.four mem2 hq
  have s0 := F.c0
  have s1 := F.c1
  have s2 := F.c2
  have s3 := F.c3
  have f0 := F.f (i * 4)
  have f1 := F.f (i * 4 + 1)
  have f2 := F.f (i * 4 + 2)
  have f3 := F.f (i * 4 + 3)
  have A2 := hid ((H1.out.swap.setQ hq noQ).swap)
  have r0 := A2.out.r0
  have r1 := A2.out.r1
  have r2 := A2.out.r2
  have g0 := A2.out.rf 0
  have g1 := A2.out.rf 1
  have g2 := A2.out.rf 2
  have AE := hid (A2.out.setR (.int .i64 0) (.int .i64 0) (.slice none 0 0))
  simp only at A2 AE r0 r1 r2 g0 g1 g2
  clear h hq F H1 A2
  generalize hW : (w.alloc (opB k nm tx n m)).alloc (.cells [Value.int .i64 0, .int .i64 0, .slice none 0 0].toArray 56) = w1 at *
  go_enter Tryz.func150, Tryz.ntmps150
  go_wp2
  generalize (((((((w1.setCell ⟨P, i * 4, none⟩ (.string ⟨#[]⟩)).setCell ⟨P, i * 4 + 1, none⟩ (.int .i64 0)).setCell ⟨P, i * 4 + 2, none⟩ (.slice none 0 0)).setCell ⟨P, i * 4 + 3, none⟩ (.map none)).setCell ⟨w.heap.size + 1, 0, none⟩ (.int .i64 0)).setCell ⟨w.heap.size + 1, 1, none⟩ (.int .i64 0)).setCell ⟨w.heap.size + 1, 2, none⟩ (.slice none 0 0)) = we at AE ⊢
  clear r0 r1 r2
  have r0 := AE.out.r0
  have r1 := AE.out.r1
  have r2 := AE.out.r2
  refine bodyPost_ret (v := .tuple #[resV 0 0 (.slice none 0 0), .int .i64 i]) (by rw [results_cell_tmp rfl]; go_simp) rfl ?_
  exact ⟨rfl, AE.out.tail⟩

set_option maxHeartbeats 1600000 in
set_option maxRecDepth 1000000 in
theorem count_any {P : Nat} {qs : List Qv} {cs : List Comp} {w : World} (h : All (blkC P (flat qs) 159 :: cs) w) (h8 : qs.length = 8) {i : Nat} {nm0 : ByteArray} {first : Int} {ao : Option Addr} {len c : Nat} {gv : Value} (hq : qs[i]? = some ⟨nm0, first, .slice ao len c, gv⟩) (k : Int) (nm tx : ByteArray) (n m : Int) :
    Calls Tryz.prog 155 #[.pointer (some ⟨P, 0, none⟩), .int .i64 i, opV k nm tx n m] w fun e w' => e = .returned (.tuple #[resV 0 len (.slice none 0 0), .int .i64 (-1)]) ∧ All (blkC P (flat qs) 159 :: cs) w' := by
  have hi8 : i < 8 := by have := (List.getElem?_eq_some_iff.1 hq).1; omega
  have hsz : (w.alloc (opB k nm tx n m)).heap.size = w.heap.size + 1 := by simp
  have H1 := hid (((h.alloc (opB k nm tx n m)).addBlk [.int .i64 0, .int .i64 0, .slice none 0 0] 56))
  rw [hsz] at H1
  clear hsz
  have i1 : (0 : Int) ≤ (i : Int) := by omega
  have i2 : (i : Int) < 8 := by omega
  have i3 : ¬ (i : Int) < 0 := by omega
  have s2 := H1.out.q2 mem2 hq
  clear h hq
  generalize hW : (w.alloc (opB k nm tx n m)).alloc (.cells [Value.int .i64 0, .int .i64 0, .slice none 0 0].toArray 56) = w1 at *
  go_enter Tryz.func155, Tryz.ntmps155
  have r0 := H1.out.r0
  have r1 := H1.out.r1
  have r2 := H1.out.r2
  have g0 := H1.out.rf 0
  have g1 := H1.out.rf 1
  have g2 := H1.out.rf 2
  have AE := hid (H1.out.setR (.int .i64 0) (.int .i64 len) (.slice none 0 0))
  clear H1 
  go_wp2
  generalize (((w1.setCell ⟨w.heap.size + 1, 0, none⟩ (.int .i64 0)).setCell ⟨w.heap.size + 1, 1, none⟩ (.int .i64 len)).setCell ⟨w.heap.size + 1, 2, none⟩ (.slice none 0 0)) = we at AE ⊢
  clear r0 r1 r2
  have r0 := AE.out.r0
  have r1 := AE.out.r1
  have r2 := AE.out.r2
  refine bodyPost_ret (v := .tuple #[resV 0 len (.slice none 0 0), .int .i64 (-1)]) (by rw [results_cell_tmp rfl]; go_simp) rfl ?_
  exact ⟨rfl, AE.out.tail⟩


set_option maxHeartbeats 1600000 in
set_option maxRecDepth 1000000 in
theorem push_many {P : Nat} {qs : List Qv} {cs : List Comp} {w : World} (h : All (blkC P (flat qs) 159 :: cs) w) (h8 : qs.length = 8) {i : Nat} {nm0 : ByteArray} {first : Int} {ao : Option Addr} {len c : Nat} {gv : Value} (hq : qs[i]? = some ⟨nm0, first, .slice ao len c, gv⟩) (hl : len = 32) (hf0 : 0 ≤ first) (hf1 : first + len ≤ 1099511627776) (k : Int) (nm tx : ByteArray) (n m : Int) :
    Calls Tryz.prog 151 #[.pointer (some ⟨P, 0, none⟩), .int .i64 i, opV k nm tx n m] w fun e w' => e = .returned (.tuple #[resV 3 0 (.slice none 0 0), .int .i64 (-1)]) ∧ All (blkC P (flat qs) 159 :: cs) w' := by
  have hi8 : i < 8 := by have := (List.getElem?_eq_some_iff.1 hq).1; omega
  have hsz : (w.alloc (opB k nm tx n m)).heap.size = w.heap.size + 1 := by simp
  have H1 := hid (((h.alloc (opB k nm tx n m)).addBlk [.int .i64 0, .int .i64 0, .slice none 0 0] 56))
  rw [hsz] at H1
  clear hsz
  have i1 : (0 : Int) ≤ (i : Int) := by omega
  have i2 : (i : Int) < 8 := by omega
  have i3 : ¬ (i : Int) < 0 := by omega
  have HQ := hid hq
  have e32 : ((len : Int) == 32) = true := by rw [hl]; rfl
  clear hl
  clear h hq
  go_enter Tryz.func151, Tryz.ntmps151
  go_wp2_with fail
  refine (end_q (i := i) (H1.out.q1 mem2 HQ.out) (H1.out.q2 mem2 HQ.out) hf0 (by simp only; omega)).mono ?_
  rintro e w1 ⟨rfl, nq, hw⟩
  have H2 := hid (show All (blkC (w.heap.size + 1) [.int .i64 0, .int .i64 0, .slice none 0 0] 56 :: blkC P (flat qs) 159 :: cs) w1 from by rw [hw]; exact H1.out.drewN nq)
  clear hw H1
  have s2 := H2.out.q2 mem2 HQ.out
  clear HQ
  have r0 := H2.out.r0
  have r1 := H2.out.r1
  have r2 := H2.out.r2
  have g0 := H2.out.rf 0
  have g1 := H2.out.rf 1
  have g2 := H2.out.rf 2
  have AE := hid (H2.out.setR (.int .i64 3) (.int .i64 0) (.slice none 0 0))
  clear H2 
  go_wp2
  generalize (((w1.setCell ⟨w.heap.size + 1, 0, none⟩ (.int .i64 3)).setCell ⟨w.heap.size + 1, 1, none⟩ (.int .i64 0)).setCell ⟨w.heap.size + 1, 2, none⟩ (.slice none 0 0)) = we at AE ⊢
  clear r0 r1 r2
  have r0 := AE.out.r0
  have r1 := AE.out.r1
  have r2 := AE.out.r2
  refine bodyPost_ret (v := .tuple #[resV 3 0 (.slice none 0 0), .int .i64 (-1)]) (by rw [results_cell_tmp rfl]; go_simp) rfl ?_
  exact ⟨rfl, AE.out.tail⟩


set_option maxHeartbeats 1600000 in
set_option maxRecDepth 1000000 in
theorem push_last {P : Nat} {qs : List Qv} {cs : List Comp} {w : World} (h : All (blkC P (flat qs) 159 :: cs) w) (h8 : qs.length = 8) {i : Nat} {nm0 : ByteArray} {first : Int} {ao : Option Addr} {len c : Nat} {gv : Value} (hq : qs[i]? = some ⟨nm0, first, .slice ao len c, gv⟩) (hl : len ≠ 32) (hm : first + len = 1099511627776) (hf0 : 0 ≤ first) (hf1 : first + len ≤ 1099511627776) (k : Int) (nm tx : ByteArray) (n m : Int) :
    Calls Tryz.prog 151 #[.pointer (some ⟨P, 0, none⟩), .int .i64 i, opV k nm tx n m] w fun e w' => e = .returned (.tuple #[resV 3 0 (.slice none 0 0), .int .i64 (-1)]) ∧ All (blkC P (flat qs) 159 :: cs) w' := by
  have hi8 : i < 8 := by have := (List.getElem?_eq_some_iff.1 hq).1; omega
  have hsz : (w.alloc (opB k nm tx n m)).heap.size = w.heap.size + 1 := by simp
  have H1 := hid (((h.alloc (opB k nm tx n m)).addBlk [.int .i64 0, .int .i64 0, .slice none 0 0] 56))
  rw [hsz] at H1
  clear hsz
  have i1 : (0 : Int) ≤ (i : Int) := by omega
  have i2 : (i : Int) < 8 := by omega
  have i3 : ¬ (i : Int) < 0 := by omega
  have HQ := hid hq
  have e32 : ((len : Int) == 32) = false := by rw [beq_eq_false_iff_ne]; omega
  have eM : ((first + (len : Int)) == 1099511627776) = true := by rw [hm]; rfl
  clear hl hm
  clear h hq
  go_enter Tryz.func151, Tryz.ntmps151
  go_wp2_with fail
  refine (end_q (i := i) (H1.out.q1 mem2 HQ.out) (H1.out.q2 mem2 HQ.out) hf0 (by simp only; omega)).mono ?_
  rintro e w1 ⟨rfl, nq, hw⟩
  have H2 := hid (show All (blkC (w.heap.size + 1) [.int .i64 0, .int .i64 0, .slice none 0 0] 56 :: blkC P (flat qs) 159 :: cs) w1 from by rw [hw]; exact H1.out.drewN nq)
  clear hw H1
  have s2 := H2.out.q2 mem2 HQ.out
  clear HQ
  have r0 := H2.out.r0
  have r1 := H2.out.r1
  have r2 := H2.out.r2
  have g0 := H2.out.rf 0
  have g1 := H2.out.rf 1
  have g2 := H2.out.rf 2
  have AE := hid (H2.out.setR (.int .i64 3) (.int .i64 0) (.slice none 0 0))
  clear H2 
  go_wp2
  generalize (((w1.setCell ⟨w.heap.size + 1, 0, none⟩ (.int .i64 3)).setCell ⟨w.heap.size + 1, 1, none⟩ (.int .i64 0)).setCell ⟨w.heap.size + 1, 2, none⟩ (.slice none 0 0)) = we at AE ⊢
  clear r0 r1 r2
  have r0 := AE.out.r0
  have r1 := AE.out.r1
  have r2 := AE.out.r2
  refine bodyPost_ret (v := .tuple #[resV 3 0 (.slice none 0 0), .int .i64 (-1)]) (by rw [results_cell_tmp rfl]; go_simp) rfl ?_
  exact ⟨rfl, AE.out.tail⟩

end Go.Proofs.YtafickhhdemjnaaGreatDoor

namespace Go.Proofs.YtafickhhdemjnaaGreatDoor
open Go.RowKit
open Go.Maps (Keyed)
set_option linter.unusedVariables false

set_option maxHeartbeats 1600000 in
set_option maxRecDepth 1000000 in
theorem take_full {P b nb : Nat} {qs : List Qv} {cs : List Comp} {w : World} {i : Nat} {nm0 : ByteArray} {first : Int} {ao : Option Addr} {len c : Nat} {D : DataW Unit} (h : All (blkC P (flat qs) 159 :: mapC b nb D :: cs) w) (h8 : qs.length = 8) (hq : qs[i]? = some ⟨nm0, first, .slice ao len c, .map (some b)⟩) (hf0 : 0 ≤ first) (hf1 : first + len ≤ 1099511627776) (k : Int) (nm tx : ByteArray) (n m : Int) (hs : tx.size ≤ maxLen) (hhas : Maps.has D (.string tx.data.toList) = false) (h4 : Maps.size D = 4) :
    Calls Tryz.prog 153 #[.pointer (some ⟨P, 0, none⟩), .int .i64 i, opV k nm tx n m] w fun e w' => e = .returned (.tuple #[resV 3 0 (.slice none 0 0), .int .i64 (-1)]) ∧ All (blkC P (flat qs) 159 :: mapC b nb D :: cs) w' := by
  have hi8 : i < 8 := by have := (List.getElem?_eq_some_iff.1 hq).1; omega
  have hsz : (w.alloc (opB k nm tx n m)).heap.size = w.heap.size + 1 := by simp
  have H1 := hid (((h.alloc (opB k nm tx n m)).addBlk [.int .i64 0, .int .i64 0, .slice none 0 0] 56))
  rw [hsz] at H1
  clear hsz
  have HO := heap_alloc_new w (opB k nm tx n m)
  have o2 := hid (show ((w.alloc (opB k nm tx n m)).alloc (.cells [Value.int .i64 0, .int .i64 0, .slice none 0 0].toArray 56)).cell? ⟨w.heap.size, 2, none⟩ = some (.string tx) from cell_under (ba _ _) (by simp) (by rw [cell_at HO]; rfl))
  have HQ := hid hq
  have i1 : (0 : Int) ≤ (i : Int) := by omega
  have i2 : (i : Int) < 8 := by omega
  have i3 : ¬ (i : Int) < 0 := by omega
  have hkey := WideMaps.keyOf_string_mk Tryz.underlying9 hs
  clear h hq HO
  generalize hW : (w.alloc (opB k nm tx n m)).alloc (.cells [Value.int .i64 0, .int .i64 0, .slice none 0 0].toArray 56) = w1 at H1 o2
  have c1 := H1.out.q1 mem2 HQ.out
  have c2 := H1.out.q2 mem2 HQ.out
  have c3 := H1.out.q3 mem2 HQ.out
  have o3 := o2.out
  have hl1 := lookS (H1.out.drew.2.2.2.2.1.2.1) hkey
  rw [hhas] at hl1
  have c3d : w1.drew.cell? ⟨P, i * 4 + 3, none⟩ = some (.map (some b)) := c3
  have o3d : w1.drew.cell? ⟨w.heap.size, 2, none⟩ = some (.string tx) := o3
  go_enter Tryz.func153, Tryz.ntmps153
  go_wp2
  go_region
  have H2 := hid H1.out.drew
  have o4 := hid (show (w1.drew).cell? ⟨w.heap.size, 2, none⟩ = some (.string tx) from o2.out)
  clear H1 o2 o3 c1 c2 c3 hl1 hW c3d o3d
  generalize w1.drew = w2 at H2 o4 ⊢
  have c1 := H2.out.q1 mem2 HQ.out
  have c2 := H2.out.q2 mem2 HQ.out
  have c3 := H2.out.q3 mem2 HQ.out
  have hlm := (H2.out.2.2.2.2.1.2.1 : w2.ownsMap Tryz.prog 9 rE b nb D).len Tryz.und154
  have e4 : ((Maps.size D : Int) == 4) = true := by rw [h4]; rfl
  clear h4
  have r0 := H2.out.r0
  have r1 := H2.out.r1
  have r2 := H2.out.r2
  have g0 := H2.out.rf 0
  have g1 := H2.out.rf 1
  have g2 := H2.out.rf 2
  have AE := hid (H2.out.setR (.int .i64 3) (.int .i64 0) (.slice none 0 0))
  clear H2 
  go_wp2
  generalize (((w2.setCell ⟨w.heap.size + 1, 0, none⟩ (.int .i64 3)).setCell ⟨w.heap.size + 1, 1, none⟩ (.int .i64 0)).setCell ⟨w.heap.size + 1, 2, none⟩ (.slice none 0 0)) = we at AE ⊢
  clear r0 r1 r2
  have r0 := AE.out.r0
  have r1 := AE.out.r1
  have r2 := AE.out.r2
  refine bodyPost_ret (v := .tuple #[resV 3 0 (.slice none 0 0), .int .i64 (-1)]) (by rw [results_cell_tmp rfl]; go_simp) rfl ?_
  exact ⟨rfl, AE.out.tail⟩

set_option maxHeartbeats 1600000 in
set_option maxRecDepth 1000000 in
theorem take_bare {P b nb : Nat} {qs : List Qv} {cs : List Comp} {w : World} {i : Nat} {nm0 : ByteArray} {first : Int} {ao : Option Addr} {len c : Nat} {D : DataW Unit} (h : All (blkC P (flat qs) 159 :: mapC b nb D :: cs) w) (h8 : qs.length = 8) (hq : qs[i]? = some ⟨nm0, first, .slice ao len c, .map (some b)⟩) (hf0 : 0 ≤ first) (hf1 : first + len ≤ 1099511627776) (k : Int) (nm tx : ByteArray) (n m : Int) (hs : tx.size ≤ maxLen) (hhas : Maps.has D (.string tx.data.toList) = false) (h4 : Maps.size D ≠ 4) (h0 : len = 0) :
    Calls Tryz.prog 153 #[.pointer (some ⟨P, 0, none⟩), .int .i64 i, opV k nm tx n m] w fun e w' => e = .returned (.tuple #[resV 4 0 (.slice none 0 0), .int .i64 (-1)]) ∧ All (blkC P (flat qs) 159 :: mapC b nb D :: cs) w' := by
  have hi8 : i < 8 := by have := (List.getElem?_eq_some_iff.1 hq).1; omega
  have hsz : (w.alloc (opB k nm tx n m)).heap.size = w.heap.size + 1 := by simp
  have H1 := hid (((h.alloc (opB k nm tx n m)).addBlk [.int .i64 0, .int .i64 0, .slice none 0 0] 56))
  rw [hsz] at H1
  clear hsz
  have HO := heap_alloc_new w (opB k nm tx n m)
  have o2 := hid (show ((w.alloc (opB k nm tx n m)).alloc (.cells [Value.int .i64 0, .int .i64 0, .slice none 0 0].toArray 56)).cell? ⟨w.heap.size, 2, none⟩ = some (.string tx) from cell_under (ba _ _) (by simp) (by rw [cell_at HO]; rfl))
  have HQ := hid hq
  have i1 : (0 : Int) ≤ (i : Int) := by omega
  have i2 : (i : Int) < 8 := by omega
  have i3 : ¬ (i : Int) < 0 := by omega
  have hkey := WideMaps.keyOf_string_mk Tryz.underlying9 hs
  clear h hq HO
  generalize hW : (w.alloc (opB k nm tx n m)).alloc (.cells [Value.int .i64 0, .int .i64 0, .slice none 0 0].toArray 56) = w1 at H1 o2
  have c1 := H1.out.q1 mem2 HQ.out
  have c2 := H1.out.q2 mem2 HQ.out
  have c3 := H1.out.q3 mem2 HQ.out
  have o3 := o2.out
  have hl1 := lookS (H1.out.drew.2.2.2.2.1.2.1) hkey
  rw [hhas] at hl1
  have c3d : w1.drew.cell? ⟨P, i * 4 + 3, none⟩ = some (.map (some b)) := c3
  have o3d : w1.drew.cell? ⟨w.heap.size, 2, none⟩ = some (.string tx) := o3
  go_enter Tryz.func153, Tryz.ntmps153
  go_wp2
  go_region
  have H2 := hid H1.out.drew
  have o4 := hid (show (w1.drew).cell? ⟨w.heap.size, 2, none⟩ = some (.string tx) from o2.out)
  clear H1 o2 o3 c1 c2 c3 hl1 hW c3d o3d
  generalize w1.drew = w2 at H2 o4 ⊢
  have c1 := H2.out.q1 mem2 HQ.out
  have c2 := H2.out.q2 mem2 HQ.out
  have c3 := H2.out.q3 mem2 HQ.out
  have hlm := (H2.out.2.2.2.2.1.2.1 : w2.ownsMap Tryz.prog 9 rE b nb D).len Tryz.und154
  have e4 : ((Maps.size D : Int) == 4) = false := by rw [beq_eq_false_iff_ne]; omega
  subst h0
  go_wp2_with fail
  refine (end_q (i := i) c1 c2 hf0 (by omega)).mono ?_
  rintro e w3 ⟨rfl, nq2, hw⟩
  have H3 := hid (show All (blkC (w.heap.size + 1) [.int .i64 0, .int .i64 0, .slice none 0 0] 56 :: blkC P (flat qs) 159 :: mapC b nb D :: cs) w3 from by rw [hw]; exact H2.out.drewN nq2)
  clear hw H2 o4 c1 c2 c3 hlm
  have eE : (first == first + ((0 : Nat) : Int)) = true := by simp
  have r0 := H3.out.r0
  have r1 := H3.out.r1
  have r2 := H3.out.r2
  have g0 := H3.out.rf 0
  have g1 := H3.out.rf 1
  have g2 := H3.out.rf 2
  have AE := hid (H3.out.setR (.int .i64 4) (.int .i64 0) (.slice none 0 0))
  clear H3 
  go_wp2
  generalize (((w3.setCell ⟨w.heap.size + 1, 0, none⟩ (.int .i64 4)).setCell ⟨w.heap.size + 1, 1, none⟩ (.int .i64 0)).setCell ⟨w.heap.size + 1, 2, none⟩ (.slice none 0 0)) = we at AE ⊢
  clear r0 r1 r2
  have r0 := AE.out.r0
  have r1 := AE.out.r1
  have r2 := AE.out.r2
  refine bodyPost_ret (v := .tuple #[resV 4 0 (.slice none 0 0), .int .i64 (-1)]) (by rw [results_cell_tmp rfl]; go_simp) rfl ?_
  exact ⟨rfl, AE.out.tail⟩

set_option maxHeartbeats 1600000 in
set_option maxRecDepth 1000000 in
theorem take_done {P b nb : Nat} {qs : List Qv} {cs : List Comp} {w : World} {i : Nat} {nm0 : ByteArray} {first : Int} {ao : Option Addr} {len c : Nat} {D : DataW Unit} (h : All (blkC P (flat qs) 159 :: mapC b nb D :: cs) w) (h8 : qs.length = 8) (hq : qs[i]? = some ⟨nm0, first, .slice ao len c, .map (some b)⟩) (hf0 : 0 ≤ first) (hf1 : first + len ≤ 1099511627776) (k : Int) (nm tx : ByteArray) (n m : Int) (hs : tx.size ≤ maxLen) (hhas : Maps.has D (.string tx.data.toList) = true) (hleft : leftD D (.string tx.data.toList) = first + len) :
    Calls Tryz.prog 153 #[.pointer (some ⟨P, 0, none⟩), .int .i64 i, opV k nm tx n m] w fun e w' => e = .returned (.tuple #[resV 4 0 (.slice none 0 0), .int .i64 (-1)]) ∧ All (blkC P (flat qs) 159 :: mapC b nb D :: cs) w' := by
  have hi8 : i < 8 := by have := (List.getElem?_eq_some_iff.1 hq).1; omega
  have hsz : (w.alloc (opB k nm tx n m)).heap.size = w.heap.size + 1 := by simp
  have H1 := hid (((h.alloc (opB k nm tx n m)).addBlk [.int .i64 0, .int .i64 0, .slice none 0 0] 56))
  rw [hsz] at H1
  clear hsz
  have HO := heap_alloc_new w (opB k nm tx n m)
  have o2 := hid (show ((w.alloc (opB k nm tx n m)).alloc (.cells [Value.int .i64 0, .int .i64 0, .slice none 0 0].toArray 56)).cell? ⟨w.heap.size, 2, none⟩ = some (.string tx) from cell_under (ba _ _) (by simp) (by rw [cell_at HO]; rfl))
  have HQ := hid hq
  have i1 : (0 : Int) ≤ (i : Int) := by omega
  have i2 : (i : Int) < 8 := by omega
  have i3 : ¬ (i : Int) < 0 := by omega
  have hkey := WideMaps.keyOf_string_mk Tryz.underlying9 hs
  clear h hq HO
  generalize hW : (w.alloc (opB k nm tx n m)).alloc (.cells [Value.int .i64 0, .int .i64 0, .slice none 0 0].toArray 56) = w1 at H1 o2
  have c1 := H1.out.q1 mem2 HQ.out
  have c2 := H1.out.q2 mem2 HQ.out
  have c3 := H1.out.q3 mem2 HQ.out
  have o3 := o2.out
  have hl1 := lookS (H1.out.drew.2.2.2.2.1.2.1) hkey
  rw [hhas, hleft] at hl1
  have c3d : w1.drew.cell? ⟨P, i * 4 + 3, none⟩ = some (.map (some b)) := c3
  have o3d : w1.drew.cell? ⟨w.heap.size, 2, none⟩ = some (.string tx) := o3
  go_enter Tryz.func153, Tryz.ntmps153
  go_wp2
  go_region
  have H2 := hid H1.out.drew
  have o4 := hid (show (w1.drew).cell? ⟨w.heap.size, 2, none⟩ = some (.string tx) from o2.out)
  clear H1 o2 o3 c1 c2 c3 hl1 hW c3d o3d
  generalize w1.drew = w2 at H2 o4 ⊢
  have c1 := H2.out.q1 mem2 HQ.out
  have c2 := H2.out.q2 mem2 HQ.out
  have c3 := H2.out.q3 mem2 HQ.out
  have hlm := (H2.out.2.2.2.2.1.2.1 : w2.ownsMap Tryz.prog 9 rE b nb D).len Tryz.und154
  go_wp2_with fail
  refine (end_q (i := i) c1 c2 hf0 (by omega)).mono ?_
  rintro e w3 ⟨rfl, nq2, hw⟩
  have H3 := hid (show All (blkC (w.heap.size + 1) [.int .i64 0, .int .i64 0, .slice none 0 0] 56 :: blkC P (flat qs) 159 :: mapC b nb D :: cs) w3 from by rw [hw]; exact H2.out.drewN nq2)
  clear hw H2 o4 c1 c2 c3 hlm hleft
  have eE : (first + (len : Int) == first + (len : Int)) = true := by simp
  have r0 := H3.out.r0
  have r1 := H3.out.r1
  have r2 := H3.out.r2
  have g0 := H3.out.rf 0
  have g1 := H3.out.rf 1
  have g2 := H3.out.rf 2
  have AE := hid (H3.out.setR (.int .i64 4) (.int .i64 0) (.slice none 0 0))
  clear H3 
  go_wp2
  generalize (((w3.setCell ⟨w.heap.size + 1, 0, none⟩ (.int .i64 4)).setCell ⟨w.heap.size + 1, 1, none⟩ (.int .i64 0)).setCell ⟨w.heap.size + 1, 2, none⟩ (.slice none 0 0)) = we at AE ⊢
  clear r0 r1 r2
  have r0 := AE.out.r0
  have r1 := AE.out.r1
  have r2 := AE.out.r2
  refine bodyPost_ret (v := .tuple #[resV 4 0 (.slice none 0 0), .int .i64 (-1)]) (by rw [results_cell_tmp rfl]; go_simp) rfl ?_
  exact ⟨rfl, AE.out.tail⟩


set_option maxHeartbeats 3200000 in
set_option maxRecDepth 1000000 in
theorem take_next {P b nb : Nat} {qs : List Qv} {cs : List Comp} {w : World} {i : Nat} {nm0 : ByteArray} {first : Int} {iv : Value} {D : DataW Unit} {items : List ByteArray} (h : All (blkC P (flat qs) 159 :: ownC 9 iv (txtV items) :: mapC b nb D :: cs) w) (h8 : qs.length = 8) (hq : qs[i]? = some ⟨nm0, first, iv, .map (some b)⟩) {d : Nat} {item : ByteArray} (hd : items[d]? = some item) (hl : items.length ≤ 32) (hf0 : 0 ≤ first) (hf1 : first + items.length ≤ 1099511627776) (k : Int) (nm tx : ByteArray) (n m : Int) (hs : tx.size ≤ maxLen) (hhas : Maps.has D (.string tx.data.toList) = true) (hleft : leftD D (.string tx.data.toList) = first + d) (hnb : nb < 1152921504606846976) :
    Calls Tryz.prog 153 #[.pointer (some ⟨P, 0, none⟩), .int .i64 i, opV k nm tx n m] w fun e w' => ∃ so, e = .returned (.tuple #[resV 0 (first + d) (.slice so 1 1), .int .i64 i]) ∧ All (blkC P (flat qs) 159 :: ownC 9 iv (txtV items) :: mapC b (nb + 1) (D.put (.string tx.data.toList) (.lit (.int .i64 (first + (d : Int) + 1)))) :: ownC 9 (.slice so 1 1) (txtV [item]) :: cs) w' := by
  have hrow : w.ownsRow 0 9 1 iv (txtV items).length (txtV items) := h.2.2.1.2.1
  obtain ⟨ao, c, eo⟩ := owns_form hrow
  rw [List.length_map] at eo
  subst eo
  have hdl : d < items.length := (List.getElem?_eq_some_iff.1 hd).1
  have HD := hid hd
  clear hrow hd
  have hi8 : i < 8 := by have := (List.getElem?_eq_some_iff.1 hq).1; omega
  have hsz : (w.alloc (opB k nm tx n m)).heap.size = w.heap.size + 1 := by simp
  have H1 := hid (((h.alloc (opB k nm tx n m)).addBlk [.int .i64 0, .int .i64 0, .slice none 0 0] 56))
  rw [hsz] at H1
  clear hsz
  have HO := heap_alloc_new w (opB k nm tx n m)
  have o2 := hid (show ((w.alloc (opB k nm tx n m)).alloc (.cells [Value.int .i64 0, .int .i64 0, .slice none 0 0].toArray 56)).cell? ⟨w.heap.size, 2, none⟩ = some (.string tx) from cell_under (ba _ _) (by simp) (by rw [cell_at HO]; rfl))
  have HQ := hid hq
  have i1 : (0 : Int) ≤ (i : Int) := by omega
  have i2 : (i : Int) < 8 := by omega
  have i3 : ¬ (i : Int) < 0 := by omega
  have hkey := WideMaps.keyOf_string_mk Tryz.underlying9 hs
  clear h hq HO
  generalize hW : (w.alloc (opB k nm tx n m)).alloc (.cells [Value.int .i64 0, .int .i64 0, .slice none 0 0].toArray 56) = w1 at H1 o2
  have c1 := H1.out.q1 mem2 HQ.out
  have c2 := H1.out.q2 mem2 HQ.out
  have c3 := H1.out.q3 mem2 HQ.out
  have o3 := o2.out
  have hl1 := lookS (H1.out.drew.2.2.2.2.2.2.1.2.1) hkey
  rw [hhas, hleft] at hl1
  have c3d : w1.drew.cell? ⟨P, i * 4 + 3, none⟩ = some (.map (some b)) := c3
  have o3d : w1.drew.cell? ⟨w.heap.size, 2, none⟩ = some (.string tx) := o3
  go_enter Tryz.func153, Tryz.ntmps153
  go_wp2
  go_region
  have H2 := hid H1.out.drew
  have o4 := hid (show (w1.drew).cell? ⟨w.heap.size, 2, none⟩ = some (.string tx) from o2.out)
  clear H1 o2 o3 c1 c2 c3 hl1 hW c3d o3d
  generalize w1.drew = w2 at H2 o4 ⊢
  have c1 := H2.out.q1 mem2 HQ.out
  have c2 := H2.out.q2 mem2 HQ.out
  have c3 := H2.out.q3 mem2 HQ.out
  have hlm := (H2.out.2.2.2.2.2.2.1.2.1 : w2.ownsMap Tryz.prog 9 rE b nb D).len Tryz.und154
  clear hleft
  go_wp2_with fail
  refine (end_q (i := i) c1 c2 hf0 (by omega)).mono ?_
  rintro e w3 ⟨rfl, nq2, hw⟩
  have H3 := hid (show All _ w3 from by rw [hw]; exact H2.out.drewN nq2)
  have o5 := hid (show w3.cell? ⟨w.heap.size, 2, none⟩ = some (.string tx) from by rw [hw]; exact o4.out)
  clear hw H2 o4 c1 c2 c3 hlm
  have eE : (first + (d : Int) == first + (items.length : Int)) = false := by rw [beq_eq_false_iff_ne]; omega
  have c3 := H3.out.q3 mem2 HQ.out
  have d3 : w3.drew.cell? ⟨P, i * 4 + 3, none⟩ = some (.map (some b)) := c3
  have o6 := o5.out
  have o7 : w3.drew.cell? ⟨w.heap.size, 2, none⟩ = some (.string tx) := o6
  have hwf : (Lit.int .i64 (first + (d : Int) + 1)).wf = true := WalkArith.wf_i64 (by omega)
  obtain ⟨w4, hup, ho4, hg4⟩ := World.ownsMap.update (H3.out.drew.2.2.2.2.2.2.1.2.1 : w3.drew.ownsMap Tryz.prog 9 rE b nb D) lawS Tryz.und154 (by unfold maxLen; omega) (val := .int .i64 (first + (d : Int) + 1)) hkey (plainElem_int Tryz.underlying3 hwf)
  have H4 := hid (((H3.out.drew).perm (ds := mapC b nb D :: blkC (w.heap.size + 1) [.int .i64 0, .int .i64 0, .slice none 0 0] 56 :: blkC P (flat qs) 159 :: ownC 9 (.slice ao items.length c) (txtV items) :: cs) (List.perm_middle (l₁ := [blkC (w.heap.size + 1) [.int .i64 0, .int .i64 0, .slice none 0 0] 56, blkC P (flat qs) 159, ownC 9 (.slice ao items.length c) (txtV items)]))).mapTurn hg4 ho4)
  clear ho4 hg4 H3 o5
  go_wp2
  go_region
  clear c3 d3 o6 o7 hup
  have H5 := hid (H4.out.perm (ds := blkC (w.heap.size + 1) [.int .i64 0, .int .i64 0, .slice none 0 0] 56 :: blkC P (flat qs) 159 :: ownC 9 (.slice ao items.length c) (txtV items) :: mapC b (nb + 1) (D.put (.string tx.data.toList) (.lit (.int .i64 (first + (d : Int) + 1)))) :: cs) (List.perm_middle (l₁ := [blkC (w.heap.size + 1) [.int .i64 0, .int .i64 0, .slice none 0 0] 56, blkC P (flat qs) 159, ownC 9 (.slice ao items.length c) (txtV items)])).symm)
  clear H4
  have row := (H5.out.2.2.2.2.1.2.1 : w4.ownsRow 0 9 1 (.slice ao items.length c) (txtV items).length (txtV items))
  obtain ⟨g, ea, hc0, _⟩ := owns_at row (k := d) (u := .string item) (by simp [HD.out])
  have hg := H5.out.2.2.2.2.1.2.2 g (by rw [ea]; simp [ownC, Value.ownBlock])
  have hP : P < w4.heap.size := (H5.out.mem mem2).2.2 P (by simp [blkC])
  have hR : w.heap.size + 1 < w4.heap.size := (H5.out.mem List.mem_cons_self).2.2 _ (by simp [blkC])
  subst ea
  have hsub : first + (d : Int) - first = (d : Int) := by omega
  have c1 : w4.drew.cell? ⟨P, i * 4 + 1, none⟩ = some (.int .i64 first) := H5.out.q1 mem2 HQ.out
  have c2 : w4.drew.cell? ⟨P, i * 4 + 2, none⟩ = some (.slice (some ⟨g, 0, none⟩) items.length c) := H5.out.q2 mem2 HQ.out
  have hc0 : w4.drew.cell? ⟨g, d, none⟩ = some (.string item) := hc0
  have r0 : w4.drew.cell? ⟨w.heap.size + 1, 0, none⟩ = some (.int .i64 0) := H5.out.r0
  have r1 : w4.drew.cell? ⟨w.heap.size + 1, 1, none⟩ = some (.int .i64 0) := H5.out.r1
  have r2 : w4.drew.cell? ⟨w.heap.size + 1, 2, none⟩ = some (.slice none 0 0) := H5.out.r2
  have g0 : w4.drew.frozen? ⟨w.heap.size + 1, 0, none⟩ = false := H5.out.rf 0
  have g1 : w4.drew.frozen? ⟨w.heap.size + 1, 1, none⟩ = false := H5.out.rf 1
  have g2 : w4.drew.frozen? ⟨w.heap.size + 1, 2, none⟩ = false := H5.out.rf 2
  clear row
  have R0 : w4.cell? ⟨w.heap.size + 1, 0, none⟩ = some (.int .i64 0) := r0
  have R1 : w4.cell? ⟨w.heap.size + 1, 1, none⟩ = some (.int .i64 0) := r1
  have R2 : w4.cell? ⟨w.heap.size + 1, 2, none⟩ = some (.slice none 0 0) := r2
  have G0 : w4.frozen? ⟨w.heap.size + 1, 0, none⟩ = false := g0
  have G1 : w4.frozen? ⟨w.heap.size + 1, 1, none⟩ = false := g1
  have G2 : w4.frozen? ⟨w.heap.size + 1, 2, none⟩ = false := g2
  have C1 : w4.cell? ⟨P, i * 4 + 1, none⟩ = some (.int .i64 first) := c1
  have C2 : w4.cell? ⟨P, i * 4 + 2, none⟩ = some (.slice (some ⟨g, 0, none⟩) items.length c) := c2
  have C0 : w4.cell? ⟨g, d, none⟩ = some (.string item) := hc0
  have A7 := hid ((H5.out.setR (.int .i64 0) (.int .i64 (first + (d : Int))) (.slice (some ⟨w4.heap.size, 0, none⟩) 1 1)).addOne item).drew
  have hsz4 : (((w4.setCell ⟨w.heap.size + 1, 0, none⟩ (.int .i64 0)).setCell ⟨w.heap.size + 1, 1, none⟩ (.int .i64 (first + (d : Int)))).setCell ⟨w.heap.size + 1, 2, none⟩ (.slice (some ⟨w4.heap.size, 0, none⟩) 1 1)).heap.size = w4.heap.size := by simp [World.setCell]
  rw [hsz4] at A7
  have A7 := hid A7
  clear hsz4
  go_wp2
  go_region
  generalize ((((w4.setCell ⟨w.heap.size + 1, 0, none⟩ (.int .i64 0)).setCell ⟨w.heap.size + 1, 1, none⟩ (.int .i64 (first + (d : Int)))).setCell ⟨w.heap.size + 1, 2, none⟩ (.slice (some ⟨w4.heap.size, 0, none⟩) 1 1)).alloc (.cells #[.string item] 9)).drew = w5 at A7 ⊢
  clear r0 r1 r2 g0 g1 g2 R0 R1 R2 G0 G1 G2 C0 C1 C2 c1 c2 hc0
  have A8 := hid (A7.out.swap)
  have r0 := A8.out.r0
  have r1 := A8.out.r1
  have r2 := A8.out.r2
  go_wp2
  refine bodyPost_ret (v := .tuple #[resV 0 (first + (d : Int)) (.slice (some ⟨w4.heap.size, 0, none⟩) 1 1), .int .i64 i]) (by rw [results_cell_tmp rfl]; go_simp) rfl ?_
  refine ⟨_, rfl, ?_⟩
  exact A8.out.tail.perm (List.perm_middle (l₁ := [blkC P (flat qs) 159, ownC 9 (.slice (some ⟨g, 0, none⟩) items.length c) (txtV items), mapC b (nb + 1) (D.put (.string tx.data.toList) (.lit (.int .i64 (first + (d : Int) + 1))))])).symm
end Go.Proofs.YtafickhhdemjnaaGreatDoor

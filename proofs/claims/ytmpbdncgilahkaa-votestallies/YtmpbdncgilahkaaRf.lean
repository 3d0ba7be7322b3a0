import Derived.Test.YtmpbdncgilahkaaMeet
import Derived.Test.YtmpbdncgilahkaaReach
namespace Go.Proofs.Ytmpbdncgilahkaa
open Go.RowKit
set_option linter.unusedVariables false

/-- The first cells of a block. -/
def RowX (w : World) (g : Nat) (e : TypeId) (xs : List Value) : Prop := ∃ cur : Array Value, w.heap[g]? = some (.cells cur e (0, 0)) ∧ cur.toList.take xs.length = xs
section
variable {w w' : World} {g : Nat} {e : TypeId} {xs : List Value}
theorem RowX.lt (h : RowX w g e xs) : g < w.heap.size := by obtain ⟨cur, hg, _⟩ := h; exact (Array.getElem?_eq_some_iff.1 hg).1
theorem RowX.cell (h : RowX w g e xs) {j : Nat} {u : Value} (hj : xs[j]? = some u) : w.cell? ⟨g, j, none⟩ = some u := by
  obtain ⟨cur, hg, ht⟩ := h
  rw [cell_at hg]
  have hl := (List.getElem?_eq_some_iff.1 hj).1
  have key : (cur.toList.take xs.length)[j]? = some u := by rw [ht]; exact hj
  rw [List.getElem?_take, if_pos hl] at key
  simpa using key
theorem RowX.free (h : RowX w g e xs) (j : Nat) : w.frozen? ⟨g, j, none⟩ = false := by obtain ⟨cur, hg, _⟩ := h; exact free_at hg j
theorem RowX.keep (h : RowX w g e xs) (hb : w'.heap[g]? = w.heap[g]?) : RowX w' g e xs := by obtain ⟨cur, hg, ht⟩ := h; exact ⟨cur, hb.trans hg, ht⟩
theorem RowX.set (h : RowX w g e xs) (j : Nat) (u : Value) : RowX (w.setCell ⟨g, j, none⟩ u) g e (xs.set j u) := by
  obtain ⟨cur, hg, ht⟩ := h
  refine ⟨_, heap_setCell_same hg u, ?_⟩
  rw [List.length_set, Array.toList_setIfInBounds, List.take_set, ht]
end

/-- The document's tally: where it lies, and what it holds. -/
structure Rfs where
  r : Nat
  s : Nat
  p : Nat
  cs : Nat
  cp : Nat
  n : Nat
  said : List Int
  spoke : List Bool

structure Rf (w : World) (t : Rfs) : Prop where
  blk : w.heap[t.r]? = some (.cells #[.slice (some ⟨t.s, 0, none⟩) t.n t.cs, .slice (some ⟨t.p, 0, none⟩) t.n t.cp] 80 (0, 0))
  ints : RowX w t.s 3 (ints t.said)
  bools : RowX w t.p 4 (bools t.spoke)
  lsaid : t.said.length = t.n
  lspoke : t.spoke.length = t.n
  one : 1 ≤ t.n
  seven : t.n ≤ 7
  rs : t.r ≠ t.s
  rp : t.r ≠ t.p
  sp : t.s ≠ t.p

section
variable {w w' : World} {t : Rfs}
theorem Rf.c0 (h : Rf w t) : w.cell? ⟨t.r, 0, none⟩ = some (.slice (some ⟨t.s, 0, none⟩) t.n t.cs) := by rw [cell_at h.blk]; rfl
theorem Rf.c1 (h : Rf w t) : w.cell? ⟨t.r, 1, none⟩ = some (.slice (some ⟨t.p, 0, none⟩) t.n t.cp) := by rw [cell_at h.blk]; rfl
theorem Rf.si (h : Rf w t) {k : Nat} {v : Int} (hk : t.said[k]? = some v) : w.cell? ⟨t.s, k, none⟩ = some (.int .i64 v) := h.ints.cell (by rw [List.getElem?_map, hk]; rfl)
theorem Rf.pi (h : Rf w t) {k : Nat} {b : Bool} (hk : t.spoke[k]? = some b) : w.cell? ⟨t.p, k, none⟩ = some (.bool b) := h.bools.cell (by rw [List.getElem?_map, hk]; rfl)
theorem Rf.keep (h : Rf w t) (h1 : w'.heap[t.r]? = w.heap[t.r]?) (h2 : w'.heap[t.s]? = w.heap[t.s]?) (h3 : w'.heap[t.p]? = w.heap[t.p]?) : Rf w' t :=
  ⟨h1.trans h.blk, h.ints.keep h2, h.bools.keep h3, h.lsaid, h.lspoke, h.one, h.seven, h.rs, h.rp, h.sp⟩
theorem Rf.later (h : Rf w t) (hb : Below w.heap.size w w') : Rf w' t :=
  h.keep (hb.block _ (Array.getElem?_eq_some_iff.1 h.blk).1) (hb.block _ h.ints.lt) (hb.block _ h.bools.lt)
theorem Rf.drewN (h : Rf w t) (q : Nat) : Rf (w.drewN q) t := ⟨h.blk, h.ints, h.bools, h.lsaid, h.lspoke, h.one, h.seven, h.rs, h.rp, h.sp⟩
theorem Rf.drew (h : Rf w t) : Rf w.drew t := ⟨h.blk, h.ints, h.bools, h.lsaid, h.lspoke, h.one, h.seven, h.rs, h.rp, h.sp⟩
theorem other_set (w : World) {g k : Nat} (j : Nat) (u : Value) (h : k ≠ g) : (w.setCell ⟨g, j, none⟩ u).heap[k]? = w.heap[k]? := Below.heap_setCell w ⟨g, j, none⟩ u k h
theorem Rf.speak (h : Rf w t) (k : Nat) (b : Bool) : Rf (w.setCell ⟨t.p, k, none⟩ (.bool b)) { t with spoke := t.spoke.set k b } where
  blk := (other_set w k _ h.rp).trans h.blk
  ints := h.ints.keep (other_set w k _ h.sp)
  bools := by have := h.bools.set k (.bool b); rw [bools_set] at this; exact this
  lsaid := h.lsaid
  lspoke := by rw [List.length_set]; exact h.lspoke
  one := h.one
  seven := h.seven
  rs := h.rs
  rp := h.rp
  sp := h.sp
theorem Rf.say (h : Rf w t) (k : Nat) (v : Int) : Rf (w.setCell ⟨t.s, k, none⟩ (.int .i64 v)) { t with said := t.said.set k v } where
  blk := (other_set w k _ h.rs).trans h.blk
  ints := by have := h.ints.set k (.int .i64 v); rw [show (Ytmpbdncgilahkaa.ints t.said).set k (.int .i64 v) = Ytmpbdncgilahkaa.ints (t.said.set k v) by simp [Ytmpbdncgilahkaa.ints, List.map_set]] at this; exact this
  bools := h.bools.keep (other_set w k _ (Ne.symm h.sp))
  lsaid := by rw [List.length_set]; exact h.lsaid
  lspoke := h.lspoke
  one := h.one
  seven := h.seven
  rs := h.rs
  rp := h.rp
  sp := h.sp
end

theorem RAdd_bad {w : World} {t : Rfs} {who v : Int} (h : Rf w t) (hw : who < 0 ∨ (t.n : Int) ≤ who) : Calls Try.prog 42 #[.pointer (some ⟨t.r, 0, none⟩), .int .i64 who, .int .i64 v] w fun e w' => e = .returned (.tuple #[.bool false, .int .i64 41]) ∧ w' = w := by
  have c0 := h.c0
  by_cases h0 : who < 0
  · clear h hw
    go_enter Try.func42, Try.ntmps42
    go_wp2
    go_ret2
    exact ⟨rfl, rfl⟩
  · have h1 : (t.n : Int) ≤ who := by omega
    clear h hw
    go_enter Try.func42, Try.ntmps42
    go_wp2
    go_ret2
    exact ⟨rfl, rfl⟩

set_option maxRecDepth 1000000 in
theorem RAdd_ok {w : World} {t : Rfs} {k : Nat} {v : Int} {b : Bool} (h : Rf w t) (hk : k < t.n) (hb : t.spoke[k]? = some b) : Calls Try.prog 42 #[.pointer (some ⟨t.r, 0, none⟩), .int .i64 k, .int .i64 v] w fun e w' => e = .returned (.tuple #[.bool (!b), .int .i64 0]) ∧ w' = (w.setCell ⟨t.p, k, none⟩ (.bool true)).setCell ⟨t.s, k, none⟩ (.int .i64 v) := by
  have c0 := h.c0
  have c1 := h.c1
  have h0 : ¬ (k : Int) < 0 := by omega
  have h1 : (k : Int) < t.n := by omega
  obtain ⟨y, hy⟩ : ∃ y, t.said[k]? = some y := ⟨_, List.getElem?_eq_getElem (by rw [h.lsaid]; exact hk)⟩
  have cs := h.si hy
  have cp := h.pi hb
  have fs := h.ints.free k
  have fp := h.bools.free k
  have n1 := h.rs
  have n2 := h.rp
  have n3 := h.sp
  clear h hy hb hk
  go_enter Try.func42, Try.ntmps42
  go_wp2
  go_ret2
  exact ⟨rfl, rfl⟩

theorem RGet_bad {w : World} {t : Rfs} {who : Int} (h : Rf w t) (hw : who < 0 ∨ (t.n : Int) ≤ who) : Calls Try.prog 44 #[.pointer (some ⟨t.r, 0, none⟩), .int .i64 who] w fun e w' => e = .returned (.tuple #[.int .i64 0, .bool false]) ∧ w' = w := by
  have c0 := h.c0
  by_cases h0 : who < 0
  · clear h hw
    go_enter Try.func44, Try.ntmps44
    go_wp2
    go_ret2
    exact ⟨rfl, rfl⟩
  · have h1 : (t.n : Int) ≤ who := by omega
    clear h hw
    go_enter Try.func44, Try.ntmps44
    go_wp2
    go_ret2
    exact ⟨rfl, rfl⟩

theorem RGet_ok {w : World} {t : Rfs} {k : Nat} {v : Int} {b : Bool} (h : Rf w t) (hk : k < t.n) (hb : t.spoke[k]? = some b) (hv : t.said[k]? = some v) : Calls Try.prog 44 #[.pointer (some ⟨t.r, 0, none⟩), .int .i64 k] w fun e w' => e = .returned (.tuple #[.int .i64 (bif b then v else 0), .bool b]) ∧ w' = w := by
  have c0 := h.c0
  have c1 := h.c1
  have h0 : ¬ (k : Int) < 0 := by omega
  have h1 : (k : Int) < t.n := by omega
  have cs := h.si hv
  have cp := h.pi hb
  clear h hv hb hk
  cases b with
  | false =>
    go_enter Try.func44, Try.ntmps44
    go_wp2
    go_ret2
    exact ⟨rfl, rfl⟩
  | true =>
    go_enter Try.func44, Try.ntmps44
    go_wp2
    go_ret2
    exact ⟨rfl, rfl⟩

theorem RDrop_bad {w : World} {t : Rfs} {who : Int} (h : Rf w t) (hw : who < 0 ∨ (t.n : Int) ≤ who) : Calls Try.prog 47 #[.pointer (some ⟨t.r, 0, none⟩), .int .i64 who] w fun e w' => e = .returned (.bool false) ∧ w' = w := by
  have c0 := h.c0
  by_cases h0 : who < 0
  · clear h hw
    go_enter Try.func47, Try.ntmps47
    go_wp2
    go_ret
    exact ⟨rfl, rfl⟩
  · have h1 : (t.n : Int) ≤ who := by omega
    clear h hw
    go_enter Try.func47, Try.ntmps47
    go_wp2
    go_ret
    exact ⟨rfl, rfl⟩

theorem RDrop_ok {w : World} {t : Rfs} {k : Nat} {b : Bool} (h : Rf w t) (hk : k < t.n) (hb : t.spoke[k]? = some b) : Calls Try.prog 47 #[.pointer (some ⟨t.r, 0, none⟩), .int .i64 k] w fun e w' => e = .returned (.bool b) ∧ Fr [t.p] w w' ∧ Rf w' { t with spoke := t.spoke.set k false } := by
  have c0 := h.c0
  have c1 := h.c1
  have h0 : ¬ (k : Int) < 0 := by omega
  have h1 : (k : Int) < t.n := by omega
  have cp := h.pi hb
  have fp := h.bools.free k
  have H := hid h
  have HB := hid hb
  clear h hb hk
  cases b with
  | false =>
    go_enter Try.func47, Try.ntmps47
    go_wp2
    go_ret
    refine ⟨rfl, Fr.refl _ _, ?_⟩
    have e : t.spoke.set k false = t.spoke := by
      obtain ⟨hl, he⟩ := List.getElem?_eq_some_iff.1 HB.out
      rw [← he]; exact List.set_getElem_self hl
    rw [e]
    exact H.out
  | true =>
    go_enter Try.func47, Try.ntmps47
    go_wp2
    go_ret
    exact ⟨rfl, Fr.setCell _ _ _ _, H.out.speak k false⟩

/-- How many have spoken. -/
def cnt (bs : List Bool) : Nat := bs.countP id
theorem cnt_tk {bs : List Bool} {b : Bool} {j : Nat} (h : bs[j]? = some b) : cnt (bs.take (j + 1)) = cnt (bs.take j) + (if b then 1 else 0) := by
  rw [List.take_add_one, h]
  cases b <;> simp [cnt, List.countP_append]
theorem cnt_le (bs : List Bool) : cnt bs ≤ bs.length := List.countP_le_length

set_option maxRecDepth 1000000 in
theorem RCount {w : World} {t : Rfs} (h : Rf w t) : Calls Try.prog 48 #[.pointer (some ⟨t.r, 0, none⟩)] w fun e w' => e = .returned (.int .i64 (cnt t.spoke)) ∧ w' = w := by
  have c1 := h.c1
  have h7 := h.seven
  have HL := hid h.lspoke
  have H := hid h
  clear h
  go_enter Try.func48, Try.ntmps48
  go_wp2
  go_loopw [3, 4] (fun cv iv wr => ∃ i : Nat, i ≤ t.n ∧ iv = .int .i64 i ∧ cv = .int .i64 (cnt (t.spoke.take i)) ∧ wr = w)
    (fun _ iv _ => match iv with | .int _ i => ((t.n : Int) - i).toNat | _ => 0)
  case atStart => exact ⟨0, by omega, rfl, rfl, rfl⟩
  case round =>
    obtain ⟨i, hi, rfl, rfl, rfl⟩ := hrel
    by_cases hin : i = t.n
    · have hin' : ¬ (i : Int) < t.n := by omega
      have e : t.spoke.take i = t.spoke := List.take_of_length_le (by have := HL.out; omega)
      rw [e]
      clear e
      go_wp2
      go_ret
      exact ⟨rfl, rfl⟩
    · have hin' : (i : Int) < t.n := by omega
      obtain ⟨b, hb⟩ : ∃ b, t.spoke[i]? = some b := ⟨_, List.getElem?_eq_getElem (by have := HL.out; omega)⟩
      have cp := H.out.pi hb
      have hc : cnt (t.spoke.take i) ≤ 7 := Nat.le_trans (cnt_le _) (by rw [List.length_take]; omega)
      have E := hid (cnt_tk hb)
      generalize cnt (t.spoke.take i) = c at E hc ⊢
      clear hb
      cases b with
      | false =>
        go_wp2
        go_roundw
        case rel => exact ⟨i + 1, by omega, by go_num, by rw [E.out]; rfl, trivial⟩
        case measure => simp; omega
      | true =>
        go_wp2
        go_roundw
        case rel => exact ⟨i + 1, by omega, by go_num, by rw [E.out]; go_num, trivial⟩
        case measure => simp; omega

set_option maxRecDepth 1000000 in
theorem RClear {w : World} {t : Rfs} (h : Rf w t) : Calls Try.prog 52 #[.pointer (some ⟨t.r, 0, none⟩)] w fun e w' => e = .returned (.tuple #[]) ∧ Fr [t.p] w w' ∧ Rf w' { t with spoke := List.replicate t.n false } := by
  have h7 := h.seven
  have HL := hid h.lspoke
  have H := hid h
  have n2 := hid h.rp
  clear h
  go_enter Try.func52, Try.ntmps52
  go_wp2
  go_loopw [2] (fun iv wr => ∃ i : Nat, i ≤ t.n ∧ iv = .int .i64 i ∧ Hid (Rf wr { t with spoke := List.replicate i false ++ t.spoke.drop i }) ∧ Hid (Fr [t.p] w wr))
    (fun iv _ => match iv with | .int _ i => ((t.n : Int) - i).toNat | _ => 0)
  case atStart => exact ⟨0, by omega, rfl, hid (by simpa using H.out), hid (Fr.refl _ _)⟩
  case round =>
    obtain ⟨i, hi, rfl, R, FF⟩ := hrel
    have c1 := R.out.c1
    simp only at c1
    by_cases hin : i = t.n
    · have hin' : ¬ (i : Int) < t.n := by omega
      have R2 := R.out
      rw [List.drop_eq_nil_of_le (by have := HL.out; omega), List.append_nil, hin] at R2
      have R3 := hid R2
      clear R2
      go_wp2
      go_end0
      exact ⟨rfl, FF.out, R3.out⟩
    · have hin' : (i : Int) < t.n := by omega
      have hil : i < t.spoke.length := by have := HL.out; omega
      obtain ⟨b, hb⟩ : ∃ b, (List.replicate i false ++ t.spoke.drop i)[i]? = some b := ⟨_, List.getElem?_eq_getElem (by simp; omega)⟩
      have cp := R.out.pi hb
      have fp := R.out.bools.free i
      simp only at cp fp
      have E : Hid ((List.replicate i false ++ t.spoke.drop i).set i false = List.replicate (i + 1) false ++ t.spoke.drop (i + 1)) := hid (by
        rw [List.set_append, if_neg (by simp), List.length_replicate, Nat.sub_self, List.drop_eq_getElem_cons hil, List.set_cons_zero, List.replicate_succ', List.append_assoc]
        rfl)
      clear hb
      go_wp2
      go_roundw
      case rel =>
        have R2 := R.out.speak i false
        simp only [E.out] at R2
        exact ⟨i + 1, by omega, by go_num, hid R2, hid (FF.out.set t.p i _ (by simp))⟩
      case measure => simp; omega
end Go.Proofs.Ytmpbdncgilahkaa

import Derived.Test.YtjnbnmlggbfodaaNum
namespace Go.Proofs.Ytjnbnmlggbfodaa
open Go.RowKit
set_option linter.unusedVariables false

/-- The place of the first one that none is ahead of, among the first k. -/
def fsA {α : Type} (ah : α → α → Bool) (l : List α) : Nat → Nat
  | 0 => 0
  | k + 1 => match l[k]?, l[fsA ah l k]? with
    | some x, some y => if ah x y then k else fsA ah l k
    | _, _ => fsA ah l k
theorem fsA_lt {α : Type} (ah : α → α → Bool) (l : List α) {m : Nat} (h0 : 0 < m) : ∀ {k : Nat}, k ≤ m → fsA ah l k < m
  | 0, _ => h0
  | k + 1, h => by
    have ih := fsA_lt ah l h0 (k := k) (by omega)
    unfold fsA
    split
    · split
      · omega
      · exact ih
    · exact ih
theorem fsA_next {α : Type} {ah : α → α → Bool} {l : List α} {k : Nat} {x y : α} (hx : l[k]? = some x) (hy : l[fsA ah l k]? = some y) : fsA ah l (k + 1) = if ah x y then k else fsA ah l k := by
  rw [fsA, hx, hy]


set_option maxHeartbeats 1600000 in
set_option maxRecDepth 1000000 in
theorem ah18_first {w : World} {s : Value} {l : List Bal} (hs : BalsAt w s l) (h0 : 0 < l.length) (h7 : l.length ≤ 7) : Calls Try.prog 17 #[s, .func (.func 18) #[] #[]] w fun e w' => e = .returned (.int .i64 (fsA ahB l l.length : Nat)) ∧ Below w.heap.size w w' := by
  obtain ⟨ao, c, rfl⟩ := hs.form
  have HS := hid hs
  clear hs
  generalize hm : l.length = m at *
  have HM := hid hm
  clear hm
  go_enter Try.func17, Try.ntmps17
  go_wp2
  go_loopw [5, 10] (fun av iv wr => ∃ i : Nat, i ≤ m ∧ iv = .int .i64 (i : Int) ∧ av = .int .i64 (fsA ahB l i : Nat) ∧ Hid (Below w.heap.size w wr)) (fun _ iv _ => m - (intOf iv).toNat)
  case atStart => exact ⟨0, by omega, rfl, rfl, hid (Below.refl _ _)⟩
  case round =>
    obtain ⟨i, hi, rfl, rfl, BR⟩ := hrel
    by_cases hlt : i < m
    · obtain ⟨x, hx⟩ : ∃ x, Hid (l[i]? = some x) := ⟨_, hid (List.getElem?_eq_getElem (by rw [HM.out]; exact hlt))⟩
      have hal : fsA ahB l i < m := fsA_lt _ _ h0 hi
      obtain ⟨y, hy⟩ : ∃ y, Hid (l[fsA ahB l i]? = some y) := ⟨_, hid (List.getElem?_eq_getElem (by rw [HM.out]; exact hal))⟩
      have HN : Hid (fsA ahB l (i + 1) = if ahB x y then i else fsA ahB l i) := hid (fsA_next hx.out hy.out)
      obtain ⟨g, o, rfl, hg, x0, x1, x2, x3⟩ := HS.out.at BR.out hx.out
      have A2 := hid (((All.came w).later BR.out).addBlk x.cells 27)
      have hK : g ≠ wr.heap.size := by have := BR.out.size; omega
      generalize fsA ahB l i = a at *
      have l1 : decide ((i : Int) < (m : Int)) = true := decide_eq_true (by omega)
      have l2 : (i : Int) < (m : Int) := by omega
      go_upto_region 5 with fail
      have eW : wr.alloc (.cells #[.int .i64 x.who, .int .i64 x.nm, .int .i64 x.op, .int .i64 x.cm] 27) = wr.alloc (.cells x.cells.toArray 27) := rfl
      rw [eW]
      clear eW x0 x1 x2 x3
      have W1 := hid (ba wr (.cells x.cells.toArray 27))
      generalize hw4 : wr.alloc (.cells x.cells.toArray 27) = w4 at *
      generalize hKK : wr.heap.size = K at *
      clear hw4 hKK
      have B4 := hid (A2.out.into (w0 := w) (by simp))
      obtain ⟨z0, z1, z2, z3⟩ := Bal.blk A2.out.1.2.1
      obtain ⟨g', o', eg, hg', y0, y1, y2, y3⟩ := HS.out.at B4.out hy.out
      cases eg
      have a1 : (0 : Int) ≤ (a : Int) := by omega
      have a2 : (a : Int) < (m : Int) := by omega
      go_region_held3 (fun W => W.cell? ⟨K, 0, none⟩ = some (.int .i64 x.who) ∧ W.cell? ⟨K, 1, none⟩ = some (.int .i64 x.nm) ∧ W.cell? ⟨K, 2, none⟩ = some (.int .i64 x.op) ∧ W.cell? ⟨K, 3, none⟩ = some (.int .i64 x.cm) ∧ W.cell? ⟨g, o + a * 4, none⟩ = some (.int .i64 y.who) ∧ W.cell? ⟨g, o + a * 4 + 1, none⟩ = some (.int .i64 y.nm) ∧ W.cell? ⟨g, o + a * 4 + 2, none⟩ = some (.int .i64 y.op) ∧ W.cell? ⟨g, o + a * 4 + 3, none⟩ = some (.int .i64 y.cm)) (go_keep) (first | (go_at_call 18; refine (ah18 x y).mono ?_; rintro e w5 ⟨rfl, hb⟩; have B5 := hid (B4.out.trans (((bd w4).trans hb).mono B4.out.size)); obtain ⟨g1, o1, eg1, _, q0, q1, q2, q3⟩ := HS.out.at B5.out hy.out; cases eg1; have hz : w5.heap[K]? = some (.cells x.cells.toArray 27 (0, 0)) := ((((bd w4).trans hb).block K (Array.getElem?_eq_some_iff.1 A2.out.1.2.1).1).trans A2.out.1.2.1); obtain ⟨p0, p1, p2, p3⟩ := Bal.blk hz; clear hz hb))
      cases hb : ahB x y with
      | true =>
        go_wp2
        go_roundw
        case rel => exact ⟨i + 1, by omega, by go_num, by rw [HN.out, hb]; rfl, B5⟩
        case measure => simp [intOf]; omega
      | false =>
        go_wp2
        go_roundw
        case rel => exact ⟨i + 1, by omega, by go_num, by rw [HN.out, hb]; rfl, B5⟩
        case measure => simp [intOf]; omega
    · obtain rfl : i = m := by omega
      have l1 : decide ((i : Int) < (i : Int)) = false := decide_eq_false (by omega)
      go_wp2
      go_ret
      exact ⟨rfl, BR.out⟩

set_option maxHeartbeats 1600000 in
set_option maxRecDepth 1000000 in
theorem cm19_first {w : World} {s : Value} {l : List Bal} (hs : BalsAt w s l) (h0 : 0 < l.length) (h7 : l.length ≤ 7) : Calls Try.prog 17 #[s, .func (.func 19) #[] #[]] w fun e w' => e = .returned (.int .i64 (fsA cmB l l.length : Nat)) ∧ Below w.heap.size w w' := by
  obtain ⟨ao, c, rfl⟩ := hs.form
  have HS := hid hs
  clear hs
  generalize hm : l.length = m at *
  have HM := hid hm
  clear hm
  go_enter Try.func17, Try.ntmps17
  go_wp2
  go_loopw [5, 10] (fun av iv wr => ∃ i : Nat, i ≤ m ∧ iv = .int .i64 (i : Int) ∧ av = .int .i64 (fsA cmB l i : Nat) ∧ Hid (Below w.heap.size w wr)) (fun _ iv _ => m - (intOf iv).toNat)
  case atStart => exact ⟨0, by omega, rfl, rfl, hid (Below.refl _ _)⟩
  case round =>
    obtain ⟨i, hi, rfl, rfl, BR⟩ := hrel
    by_cases hlt : i < m
    · obtain ⟨x, hx⟩ : ∃ x, Hid (l[i]? = some x) := ⟨_, hid (List.getElem?_eq_getElem (by rw [HM.out]; exact hlt))⟩
      have hal : fsA cmB l i < m := fsA_lt _ _ h0 hi
      obtain ⟨y, hy⟩ : ∃ y, Hid (l[fsA cmB l i]? = some y) := ⟨_, hid (List.getElem?_eq_getElem (by rw [HM.out]; exact hal))⟩
      have HN : Hid (fsA cmB l (i + 1) = if cmB x y then i else fsA cmB l i) := hid (fsA_next hx.out hy.out)
      obtain ⟨g, o, rfl, hg, x0, x1, x2, x3⟩ := HS.out.at BR.out hx.out
      have A2 := hid (((All.came w).later BR.out).addBlk x.cells 27)
      have hK : g ≠ wr.heap.size := by have := BR.out.size; omega
      generalize fsA cmB l i = a at *
      have l1 : decide ((i : Int) < (m : Int)) = true := decide_eq_true (by omega)
      have l2 : (i : Int) < (m : Int) := by omega
      go_upto_region 5 with fail
      have eW : wr.alloc (.cells #[.int .i64 x.who, .int .i64 x.nm, .int .i64 x.op, .int .i64 x.cm] 27) = wr.alloc (.cells x.cells.toArray 27) := rfl
      rw [eW]
      clear eW x0 x1 x2 x3
      have W1 := hid (ba wr (.cells x.cells.toArray 27))
      generalize hw4 : wr.alloc (.cells x.cells.toArray 27) = w4 at *
      generalize hKK : wr.heap.size = K at *
      clear hw4 hKK
      have B4 := hid (A2.out.into (w0 := w) (by simp))
      obtain ⟨z0, z1, z2, z3⟩ := Bal.blk A2.out.1.2.1
      obtain ⟨g', o', eg, hg', y0, y1, y2, y3⟩ := HS.out.at B4.out hy.out
      cases eg
      have a1 : (0 : Int) ≤ (a : Int) := by omega
      have a2 : (a : Int) < (m : Int) := by omega
      go_region_held3 (fun W => W.cell? ⟨K, 0, none⟩ = some (.int .i64 x.who) ∧ W.cell? ⟨K, 1, none⟩ = some (.int .i64 x.nm) ∧ W.cell? ⟨K, 2, none⟩ = some (.int .i64 x.op) ∧ W.cell? ⟨K, 3, none⟩ = some (.int .i64 x.cm) ∧ W.cell? ⟨g, o + a * 4, none⟩ = some (.int .i64 y.who) ∧ W.cell? ⟨g, o + a * 4 + 1, none⟩ = some (.int .i64 y.nm) ∧ W.cell? ⟨g, o + a * 4 + 2, none⟩ = some (.int .i64 y.op) ∧ W.cell? ⟨g, o + a * 4 + 3, none⟩ = some (.int .i64 y.cm)) (go_keep) (first | (go_at_call 19; refine (cm19 x y).mono ?_; rintro e w5 ⟨rfl, hb⟩; have B5 := hid (B4.out.trans (((bd w4).trans hb).mono B4.out.size)); obtain ⟨g1, o1, eg1, _, q0, q1, q2, q3⟩ := HS.out.at B5.out hy.out; cases eg1; have hz : w5.heap[K]? = some (.cells x.cells.toArray 27 (0, 0)) := ((((bd w4).trans hb).block K (Array.getElem?_eq_some_iff.1 A2.out.1.2.1).1).trans A2.out.1.2.1); obtain ⟨p0, p1, p2, p3⟩ := Bal.blk hz; clear hz hb))
      cases hb : cmB x y with
      | true =>
        go_wp2
        go_roundw
        case rel => exact ⟨i + 1, by omega, by go_num, by rw [HN.out, hb]; rfl, B5⟩
        case measure => simp [intOf]; omega
      | false =>
        go_wp2
        go_roundw
        case rel => exact ⟨i + 1, by omega, by go_num, by rw [HN.out, hb]; rfl, B5⟩
        case measure => simp [intOf]; omega
    · obtain rfl : i = m := by omega
      have l1 : decide ((i : Int) < (i : Int)) = false := decide_eq_false (by omega)
      go_wp2
      go_ret
      exact ⟨rfl, BR.out⟩

set_option maxHeartbeats 1600000 in
set_option maxRecDepth 1000000 in
theorem vw26_first {w : World} {s : Value} {l : List Wit} (hs : WitsAt w s l) (h0 : 0 < l.length) (h7 : l.length ≤ 7) : Calls Try.prog 25 #[s, .func (.func 26) #[] #[]] w fun e w' => e = .returned (.int .i64 (fsA vwW l l.length : Nat)) ∧ Below w.heap.size w w' := by
  obtain ⟨ao, c, rfl⟩ := hs.form
  have HS := hid hs
  clear hs
  generalize hm : l.length = m at *
  have HM := hid hm
  clear hm
  go_enter Try.func25, Try.ntmps25
  go_wp2
  go_loopw [5, 10] (fun av iv wr => ∃ i : Nat, i ≤ m ∧ iv = .int .i64 (i : Int) ∧ av = .int .i64 (fsA vwW l i : Nat) ∧ Hid (Below w.heap.size w wr)) (fun _ iv _ => m - (intOf iv).toNat)
  case atStart => exact ⟨0, by omega, rfl, rfl, hid (Below.refl _ _)⟩
  case round =>
    obtain ⟨i, hi, rfl, rfl, BR⟩ := hrel
    by_cases hlt : i < m
    · obtain ⟨x, hx⟩ : ∃ x, Hid (l[i]? = some x) := ⟨_, hid (List.getElem?_eq_getElem (by rw [HM.out]; exact hlt))⟩
      have hal : fsA vwW l i < m := fsA_lt _ _ h0 hi
      obtain ⟨y, hy⟩ : ∃ y, Hid (l[fsA vwW l i]? = some y) := ⟨_, hid (List.getElem?_eq_getElem (by rw [HM.out]; exact hal))⟩
      have HN : Hid (fsA vwW l (i + 1) = if vwW x y then i else fsA vwW l i) := hid (fsA_next hx.out hy.out)
      obtain ⟨g, o, rfl, hg, x0, x1, x2⟩ := HS.out.at BR.out hx.out
      have A2 := hid (((All.came w).later BR.out).addBlk x.cells 33)
      have hK : g ≠ wr.heap.size := by have := BR.out.size; omega
      generalize fsA vwW l i = a at *
      have l1 : decide ((i : Int) < (m : Int)) = true := decide_eq_true (by omega)
      have l2 : (i : Int) < (m : Int) := by omega
      go_upto_region 5 with fail
      have eW : wr.alloc (.cells #[.int .i64 x.who, .int .i64 x.vw, .bool x.has] 33) = wr.alloc (.cells x.cells.toArray 33) := rfl
      rw [eW]
      clear eW x0 x1 x2
      have W1 := hid (ba wr (.cells x.cells.toArray 33))
      generalize hw4 : wr.alloc (.cells x.cells.toArray 33) = w4 at *
      generalize hKK : wr.heap.size = K at *
      clear hw4 hKK
      have B4 := hid (A2.out.into (w0 := w) (by simp))
      obtain ⟨z0, z1, z2⟩ := Wit.blk A2.out.1.2.1
      obtain ⟨g', o', eg, hg', y0, y1, y2⟩ := HS.out.at B4.out hy.out
      cases eg
      have a1 : (0 : Int) ≤ (a : Int) := by omega
      have a2 : (a : Int) < (m : Int) := by omega
      go_region_held3 (fun W => W.cell? ⟨K, 0, none⟩ = some (.int .i64 x.who) ∧ W.cell? ⟨K, 1, none⟩ = some (.int .i64 x.vw) ∧ W.cell? ⟨K, 2, none⟩ = some (.bool x.has) ∧ W.cell? ⟨g, o + a * 3, none⟩ = some (.int .i64 y.who) ∧ W.cell? ⟨g, o + a * 3 + 1, none⟩ = some (.int .i64 y.vw) ∧ W.cell? ⟨g, o + a * 3 + 2, none⟩ = some (.bool y.has)) (go_keep) (first | (go_at_call 26; refine (vw26 x y).mono ?_; rintro e w5 ⟨rfl, hb⟩; have B5 := hid (B4.out.trans (((bd w4).trans hb).mono B4.out.size)); obtain ⟨g1, o1, eg1, _, q0, q1, q2⟩ := HS.out.at B5.out hy.out; cases eg1; have hz : w5.heap[K]? = some (.cells x.cells.toArray 33 (0, 0)) := ((((bd w4).trans hb).block K (Array.getElem?_eq_some_iff.1 A2.out.1.2.1).1).trans A2.out.1.2.1); obtain ⟨p0, p1, p2⟩ := Wit.blk hz; clear hz hb))
      cases hb : vwW x y with
      | true =>
        go_wp2
        go_roundw
        case rel => exact ⟨i + 1, by omega, by go_num, by rw [HN.out, hb]; rfl, B5⟩
        case measure => simp [intOf]; omega
      | false =>
        go_wp2
        go_roundw
        case rel => exact ⟨i + 1, by omega, by go_num, by rw [HN.out, hb]; rfl, B5⟩
        case measure => simp [intOf]; omega
    · obtain rfl : i = m := by omega
      have l1 : decide ((i : Int) < (i : Int)) = false := decide_eq_false (by omega)
      go_wp2
      go_ret
      exact ⟨rfl, BR.out⟩
end Go.Proofs.Ytjnbnmlggbfodaa

import Derived.Test.YtdhkdniddjnigaaGreatDoorJ10
import Derived.Great.BuildSlice
import Derived.Deep.MidRow
namespace Go.Proofs.YtdhkdniddjnigaaGreatDoor
open Go.RowKit
set_option linter.unusedVariables false

def wi (v l m : Int) : Bool := decide (l ≤ v) && decide (v ≤ m)
def fl (n : Int) : Bool := n == 3 || n == 5 || n == 7
theorem vwithin_any {w : World} (v l m : Int) : Calls Tryz.prog 64 #[.int .i64 v, .int .i64 l, .int .i64 m] w fun e w' => e = .returned (.bool (wi v l m)) ∧ w' = w := by
  unfold wi
  by_cases h1 : l ≤ v
  · by_cases h2 : v ≤ m
    all_goals
      go_enter Tryz.func64, Tryz.ntmps64
      go_wp2
      go_ret
      exact ⟨by simp [h1, h2], rfl⟩
  · go_enter Tryz.func64, Tryz.ntmps64
    go_wp2
    go_ret
    exact ⟨by rw [show decide (l ≤ v) = false from decide_eq_false (by omega)]; rfl, rfl⟩
theorem vfleet_any {w : World} (n : Int) : Calls Tryz.prog 63 #[.int .i64 n] w fun e w' => e = .returned (.bool (fl n)) ∧ w' = w := by
  unfold fl
  by_cases h1 : n = 3
  · subst h1
    go_enter Tryz.func63, Tryz.ntmps63
    go_wp2
    go_ret
    exact ⟨rfl, rfl⟩
  · by_cases h2 : n = 5
    · subst h2
      go_enter Tryz.func63, Tryz.ntmps63
      go_wp2
      go_ret
      exact ⟨rfl, rfl⟩
    · go_enter Tryz.func63, Tryz.ntmps63
      go_wp2
      go_ret
      exact ⟨by simp, rfl⟩
abbrev cfgV (a0 a1 a2 a3 a4 a5 a6 a7 a8 a9 : Int) : Value := .agg #[.int .i64 a0, .int .i64 a1, .int .i64 a2, .int .i64 a3, .int .i64 a4, .int .i64 a5, .int .i64 a6, .int .i64 a7, .int .i64 a8, .int .i64 a9]
abbrev cfgB (a0 a1 a2 a3 a4 a5 a6 a7 a8 a9 : Int) : Obj := .cells #[.int .i64 a0, .int .i64 a1, .int .i64 a2, .int .i64 a3, .int .i64 a4, .int .i64 a5, .int .i64 a6, .int .i64 a7, .int .i64 a8, .int .i64 a9] 23
def cfgOK (a0 a1 a2 a3 a4 a5 a6 a7 a8 a9 : Int) : Bool := fl a0 && wi a1 1 8 && wi a2 1 16 && wi a3 1 16 && wi a4 (wrap64 (a2 + 1)) 256 && wi a5 a4 1024 && wi a6 1 a5 && wi a8 2 64 && wi a7 1 (wrap64 (a8 - 1)) && wi a9 1 8
def cfgE (b : Bool) : Int := if b then 0 else 42
theorem cfgE_t {b : Bool} (h : b = true) : cfgE b = 0 := by rw [h]; rfl
theorem cfgE_f {b : Bool} (h : b = false) : cfgE b = 42 := by rw [h]; rfl
theorem vwithin_b {w : World} (v l m : Int) : Calls Tryz.prog 64 #[.int .i64 v, .int .i64 l, .int .i64 m] w fun e w' => ∃ b, Hid (wi v l m = b) ∧ e = .returned (.bool b) ∧ w' = w :=
  (vwithin_any v l m).mono fun e w' ⟨h, h'⟩ => ⟨_, hid rfl, h, h'⟩
theorem vfleet_b {w : World} (n : Int) : Calls Tryz.prog 63 #[.int .i64 n] w fun e w' => ∃ b, Hid (fl n = b) ∧ e = .returned (.bool b) ∧ w' = w :=
  (vfleet_any n).mono fun e w' ⟨h, h'⟩ => ⟨_, hid rfl, h, h'⟩
set_option maxRecDepth 1000000 in
theorem cfg_any {w : World} (a0 a1 a2 a3 a4 a5 a6 a7 a8 a9 : Int) : Calls Tryz.prog 38 #[cfgV a0 a1 a2 a3 a4 a5 a6 a7 a8 a9] w fun e w' => e = .returned (.int .i64 (cfgE (cfgOK a0 a1 a2 a3 a4 a5 a6 a7 a8 a9))) ∧ Below w.heap.size w w' := by
  go_enter Tryz.func38, Tryz.ntmps38
  go_wp2_with fail
  refine (vfleet_b _).mono ?_
  rintro e w1 ⟨b, H0, rfl, rfl⟩
  cases b with
  | false =>
    go_wp2
    go_ret
    exact ⟨by rw [cfgE_f (by simp only [cfgOK, H0.out, Bool.false_and])]; rfl, ba _ _⟩
  | true =>
    go_wp2_with fail
    refine (vwithin_b _ _ _).mono ?_
    rintro e w1 ⟨b, H1, rfl, rfl⟩
    cases b with
    | false =>
      go_wp2
      go_ret
      exact ⟨by rw [cfgE_f (by simp only [cfgOK, H0.out, H1.out, Bool.false_and, Bool.and_false])]; rfl, ba _ _⟩
    | true =>
      go_wp2_with fail
      refine (vwithin_b _ _ _).mono ?_
      rintro e w1 ⟨b, H2, rfl, rfl⟩
      cases b with
      | false =>
        go_wp2
        go_ret
        exact ⟨by rw [cfgE_f (by simp only [cfgOK, H0.out, H1.out, H2.out, Bool.false_and, Bool.and_false, Bool.true_and])]; rfl, ba _ _⟩
      | true =>
        go_wp2_with fail
        refine (vwithin_b _ _ _).mono ?_
        rintro e w1 ⟨b, H3, rfl, rfl⟩
        cases b with
        | false =>
          go_wp2
          go_ret
          exact ⟨by rw [cfgE_f (by simp only [cfgOK, H0.out, H1.out, H2.out, H3.out, Bool.false_and, Bool.and_false, Bool.true_and])]; rfl, ba _ _⟩
        | true =>
          go_wp2_with fail
          refine (vwithin_b _ _ _).mono ?_
          rintro e w1 ⟨b, H4, rfl, rfl⟩
          cases b with
          | false =>
            go_wp2
            go_ret
            exact ⟨by rw [cfgE_f (by simp only [cfgOK, H0.out, H1.out, H2.out, H3.out, H4.out, Bool.false_and, Bool.and_false, Bool.true_and])]; rfl, ba _ _⟩
          | true =>
            go_wp2_with fail
            refine (vwithin_b _ _ _).mono ?_
            rintro e w1 ⟨b, H5, rfl, rfl⟩
            cases b with
            | false =>
              go_wp2
              go_ret
              exact ⟨by rw [cfgE_f (by simp only [cfgOK, H0.out, H1.out, H2.out, H3.out, H4.out, H5.out, Bool.false_and, Bool.and_false, Bool.true_and])]; rfl, ba _ _⟩
            | true =>
              go_wp2_with fail
              refine (vwithin_b _ _ _).mono ?_
              rintro e w1 ⟨b, H6, rfl, rfl⟩
              cases b with
              | false =>
                go_wp2
                go_ret
                exact ⟨by rw [cfgE_f (by simp only [cfgOK, H0.out, H1.out, H2.out, H3.out, H4.out, H5.out, H6.out, Bool.false_and, Bool.and_false, Bool.true_and])]; rfl, ba _ _⟩
              | true =>
                go_wp2_with fail
                refine (vwithin_b _ _ _).mono ?_
                rintro e w1 ⟨b, H7, rfl, rfl⟩
                cases b with
                | false =>
                  go_wp2
                  go_ret
                  exact ⟨by rw [cfgE_f (by simp only [cfgOK, H0.out, H1.out, H2.out, H3.out, H4.out, H5.out, H6.out, H7.out, Bool.false_and, Bool.and_false, Bool.true_and])]; rfl, ba _ _⟩
                | true =>
                  go_wp2_with fail
                  refine (vwithin_b _ _ _).mono ?_
                  rintro e w1 ⟨b, H8, rfl, rfl⟩
                  cases b with
                  | false =>
                    go_wp2
                    go_ret
                    exact ⟨by rw [cfgE_f (by simp only [cfgOK, H0.out, H1.out, H2.out, H3.out, H4.out, H5.out, H6.out, H7.out, H8.out, Bool.false_and, Bool.and_false, Bool.true_and])]; rfl, ba _ _⟩
                  | true =>
                    go_wp2_with fail
                    refine (vwithin_b _ _ _).mono ?_
                    rintro e w1 ⟨b, H9, rfl, rfl⟩
                    cases b with
                    | false =>
                      go_wp2
                      go_ret
                      exact ⟨by rw [cfgE_f (by simp only [cfgOK, H0.out, H1.out, H2.out, H3.out, H4.out, H5.out, H6.out, H7.out, H8.out, H9.out, Bool.and_false, Bool.true_and])]; rfl, ba _ _⟩
                    | true =>
                      go_wp2
                      go_ret
                      exact ⟨by rw [cfgE_t (by simp only [cfgOK, H0.out, H1.out, H2.out, H3.out, H4.out, H5.out, H6.out, H7.out, H8.out, H9.out, Bool.and_self])]; rfl, ba _ _⟩
theorem mayWait_yes {w : World} {n : Int} (h1 : 1 ≤ n) (h2 : n ≤ 1024) : Calls Tryz.prog 102 #[.int .i64 n] w fun e w' => e = .returned (.bool true) ∧ w' = w := by
  go_enter Tryz.func102, Tryz.ntmps102
  go_wp2
  go_ret
  exact ⟨rfl, rfl⟩
/-- A backoff's block. -/
def BoB (w : World) (P : Nat) (b m n : Int) : Prop := w.heap[P]? = some (.cells #[.int .i64 b, .int .i64 m, .int .i64 n] 170 (0, 0))
variable {w : World} {P : Nat} {b m n : Int}
theorem BoB.c0 (h : BoB w P b m n) : w.cell? ⟨P, 0, none⟩ = some (.int .i64 b) := by rw [cell_at h]; rfl
theorem BoB.c1 (h : BoB w P b m n) : w.cell? ⟨P, 1, none⟩ = some (.int .i64 m) := by rw [cell_at h]; rfl
theorem BoB.c2 (h : BoB w P b m n) : w.cell? ⟨P, 2, none⟩ = some (.int .i64 n) := by rw [cell_at h]; rfl
theorem BoB.free (h : BoB w P b m n) (j : Nat) : w.frozen? ⟨P, j, none⟩ = false := free_at h j
theorem BoB.set2 (h : BoB w P b m n) (k : Int) : BoB (w.setCell ⟨P, 2, none⟩ (.int .i64 k)) P b m k := by
  unfold BoB; rw [heap_setCell_same h]; rfl
theorem NewBackoff_ok {w : World} {b m : Int} (h1 : 1 ≤ b) (h2 : b ≤ m) (h3 : m ≤ 1024) :
    Calls Tryz.prog 65 #[.int .i64 b, .int .i64 m] w fun e w' => ∃ P, e = .returned (.tuple #[.pointer (some ⟨P, 0, none⟩), .int .i64 0]) ∧ Below w.heap.size w w' ∧ w.heap.size ≤ P ∧ BoB w' P b m b := by
  have h4 : b ≤ 1024 := by omega
  go_enter Tryz.func65, Tryz.ntmps65
  go_wp2_with fail
  refine (mayWait_yes h1 h4).mono ?_
  rintro e w1 ⟨rfl, rfl⟩
  go_wp2
  go_ret2
  exact ⟨_, rfl, ba _ _, Nat.le_refl _, heap_alloc_new _ _⟩
theorem Reset_any {w : World} {P : Nat} {b m n : Int} (h : BoB w P b m n) : Calls Tryz.prog 129 #[.pointer (some ⟨P, 0, none⟩)] w fun e w' => e = .returned (.tuple #[]) ∧ BoB w' P b m b ∧ Fr [P] w w' := by
  have c0 := h.c0
  have c2 := h.c2
  have f2 := h.free 2
  have N := hid (h.set2 b)
  clear h
  go_enter Tryz.func129, Tryz.ntmps129
  go_wp2
  go_end0
  exact ⟨rfl, N.out, Fr.setCell _ _ _ _⟩
theorem Next_any {w : World} {P : Nat} {b m n : Int} (h : BoB w P b m n) (h1 : 1 ≤ n) (h2 : n ≤ m) (h3 : m ≤ 1024) : Calls Tryz.prog 118 #[.pointer (some ⟨P, 0, none⟩)] w fun e w' => e = .returned (.int .i64 n) ∧ BoB w' P b m (min (2 * n) m) ∧ Fr [P] w w' := by
  have c1 := h.c1
  have c2 := h.c2
  have f2 := h.free 2
  have N1 := hid (h.set2 (min (2 * n) m))
  clear h
  have hw : IntKind.i64.wrap (2 * n) = 2 * n := by simp [IntKind.wrap, IntKind.bits, IntKind.signed]; omega
  go_enter Tryz.func118, Tryz.ntmps118
  go_wp2
  go_ret
  exact ⟨rfl, N1.out, Fr.setCell _ _ _ _⟩

theorem primary_any {w : World} (n v : Int) (hn : n = 3 ∨ n = 5 ∨ n = 7) (hv : 0 ≤ v) : Calls Tryz.prog 213 #[.int .i64 n, .int .i64 v] w fun e w' => e = .returned (.int .i64 (v.tmod n)) ∧ w' = w := by
  have h47 : Hid (∀ W : World, Calls Tryz.prog 63 #[.int .i64 n] W fun e w' => e = .returned (.bool true) ∧ w' = W) := hid (fun W => by
    have := vfleet_any (w := W) n
    rw [show fl n = true by rcases hn with rfl | rfl | rfl <;> rfl] at this
    exact this)
  have e1 : decide (v < 0) = false := by simpa using hv
  have n0 : n ≠ 0 := by omega
  have n1 : n ≠ -1 := by omega
  clear hn hv
  go_enter Tryz.func213, Tryz.ntmps213
  go_wp2_with (go_at_call 63; refine (h47.out _).mono ?_; rintro e w' ⟨rfl, rfl⟩)
  go_ret
  exact ⟨rfl, rfl⟩
end Go.Proofs.YtdhkdniddjnigaaGreatDoor

namespace Go.Proofs.YtdhkdniddjnigaaGreatDoor
open Go.RowKit
set_option linter.unusedVariables false

/-- What waits. -/
structure Wt where
  num : Int
  wts : Bool
  ok : Int
  onm : ByteArray
  otx : ByteArray
  on : Int
  om : Int
  left : Int
  pb : Nat
/-- A client. -/
structure Px where
  n : Int
  id : Int
  view : Int
  seen : Int
  rq : Wt
  qu : Wt
  who : Int
  least : Int
  again : Int
def Px.cells (x : Px) : List Value := [.int .i64 x.n, .int .i64 x.id, .int .i64 x.view, .int .i64 x.seen, .int .i64 x.rq.num, .bool x.rq.wts, .int .i64 x.rq.ok, .string x.rq.onm, .string x.rq.otx, .int .i64 x.rq.on, .int .i64 x.rq.om, .int .i64 x.rq.left, .pointer (some ⟨x.rq.pb, 0, none⟩), .int .i64 x.qu.num, .bool x.qu.wts, .int .i64 x.qu.ok, .string x.qu.onm, .string x.qu.otx, .int .i64 x.qu.on, .int .i64 x.qu.om, .int .i64 x.qu.left, .pointer (some ⟨x.qu.pb, 0, none⟩), .int .i64 x.who, .int .i64 x.least, .int .i64 x.again]
/-- A backoff. -/
abbrev boC (p : Nat) (b m n : Int) : Comp := blkC p [.int .i64 b, .int .i64 m, .int .i64 n] 170
theorem All.bo {p : Nat} {b m n : Int} {cs : List Comp} {w w' : World} {n' : Int} (h : All (boC p b m n :: cs) w) (h1 : BoB w' p b m n') (h2 : Fr [p] w w') : All (boC p b m n' :: cs) w' := by
  refine h.turn h2 (blkC_good _ _ _) h1 (fun k hk => Or.inl hk) (fun k hk => ?_)
  have : k = p := by simpa [blkC] using hk
  subst this
  exact Nat.lt_of_lt_of_le (h.1.2.2 k (by simp [blkC])) h2.size
theorem next53 {p : Nat} {b m n : Int} {cs : List Comp} {w : World} (h : All (boC p b m n :: cs) w) (h1 : 1 ≤ n) (h2 : n ≤ m) (h3 : m ≤ 1024) : Calls Tryz.prog 118 #[.pointer (some ⟨p, 0, none⟩)] w fun e w' => e = .returned (.int .i64 n) ∧ All (boC p b m (min (2 * n) m) :: cs) w' :=
  (Next_any h.1.2.1 h1 h2 h3).mono fun e w' ⟨a, b, c⟩ => ⟨a, h.bo b c⟩
theorem reset84 {p : Nat} {b m n : Int} {cs : List Comp} {w : World} (h : All (boC p b m n :: cs) w) : Calls Tryz.prog 129 #[.pointer (some ⟨p, 0, none⟩)] w fun e w' => e = .returned (.tuple #[]) ∧ All (boC p b m b :: cs) w' :=
  (Reset_any h.1.2.1).mono fun e w' ⟨a, b, c⟩ => ⟨a, h.bo b c⟩
/-- A client, and its two patiences. -/
def pxL (P : Nat) (x : Px) (b m n1 n2 : Int) : List Comp := [blkC P x.cells 111, boC x.rq.pb b m n1, boC x.qu.pb b m n2]
theorem All.px {P : Nat} {x : Px} {b m n1 n2 : Int} {cs : List Comp} {w : World} (h : All (pxL P x b m n1 n2 ++ cs) w) : w.heap[P]? = some (.cells x.cells.toArray 111 (0, 0)) := h.1.2.1

theorem awaitsR {P : Nat} {x : Px} {b m n1 n2 : Int} {cs : List Comp} {w : World} (h : All (pxL P x b m n1 n2 ++ cs) w) (k : Int) : Calls Tryz.prog 57 #[.pointer (some ⟨P, 4, none⟩), .int .i64 k] w fun e w' => e = .returned (.bool (x.rq.wts && (x.rq.num == k))) ∧ w' = w := by
  have c4 : w.cell? ⟨P, 4, none⟩ = some (.int .i64 x.rq.num) := by rw [cell_at h.px]; rfl
  have c5 : w.cell? ⟨P, 5, none⟩ = some (.bool x.rq.wts) := by rw [cell_at h.px]; rfl
  clear h
  obtain ⟨b1, hb1⟩ : ∃ b1, Hid (b1 = x.rq.wts) := ⟨_, hid rfl⟩
  rw [← hb1.out] at c5 ⊢
  clear hb1
  cases b1
  all_goals
    go_enter Tryz.func57, Tryz.ntmps57
    go_wp2
    go_ret
    exact ⟨rfl, rfl⟩

theorem tickR_no {P : Nat} {x : Px} {b m n1 n2 : Int} {cs : List Comp} {w : World} (h : All (pxL P x b m n1 n2 ++ cs) w) (hw : x.rq.wts = false) : Calls Tryz.prog 77 #[.pointer (some ⟨P, 4, none⟩)] w fun e w' => e = .returned (.bool false) ∧ w' = w := by
  have c5 : w.cell? ⟨P, 5, none⟩ = some (.bool x.rq.wts) := by rw [cell_at h.px]; rfl
  rw [hw] at c5
  clear h hw
  go_enter Tryz.func77, Tryz.ntmps77
  go_wp2
  go_ret
  exact ⟨rfl, rfl⟩
theorem tickR_less {P : Nat} {x : Px} {b m n1 n2 : Int} {cs : List Comp} {w : World} (h : All (pxL P x b m n1 n2 ++ cs) w) (hw : x.rq.wts = true) (hl : 1 < x.rq.left) (hl2 : x.rq.left ≤ 1024) : Calls Tryz.prog 77 #[.pointer (some ⟨P, 4, none⟩)] w fun e w' => e = .returned (.bool false) ∧ All (pxL P { x with rq := { x.rq with left := x.rq.left - 1 } } b m n1 n2 ++ cs) w' := by
  have c5 : w.cell? ⟨P, 5, none⟩ = some (.bool x.rq.wts) := by rw [cell_at h.px]; rfl
  have c11 : w.cell? ⟨P, 11, none⟩ = some (.int .i64 x.rq.left) := by rw [cell_at h.px]; rfl
  rw [hw] at c5
  have f7 := free_at h.px 11
  have A := hid (h.setBlk 11 (.int .i64 (x.rq.left - 1)))
  have e1 : IntKind.i64.wrap (x.rq.left - 1) = x.rq.left - 1 := by rw [IntKind.wrap_i64]; omega
  have e2 : decide (1 < x.rq.left) = true := by simpa using hl
  have c9 : (w.setCell ⟨P, 11, none⟩ (.int .i64 (x.rq.left - 1))).cell? ⟨P, 11, none⟩ = some (.int .i64 (x.rq.left - 1)) := by rw [cell_at A.out.1.2.1]; rfl
  clear h hw hl2
  go_enter Tryz.func77, Tryz.ntmps77
  go_wp2
  go_ret
  exact ⟨rfl, A.out⟩
theorem tickR_yes {P : Nat} {x : Px} {b m n1 n2 : Int} {cs : List Comp} {w : World} (h : All (pxL P x b m n1 n2 ++ cs) w) (hw : x.rq.wts = true) (hl : x.rq.left = 1) (h1 : 1 ≤ n1) (h2 : n1 ≤ m) (h3 : m ≤ 1024) : Calls Tryz.prog 77 #[.pointer (some ⟨P, 4, none⟩)] w fun e w' => e = .returned (.bool true) ∧ All (pxL P { x with rq := { x.rq with left := n1 } } b m (min (2 * n1) m) n2 ++ cs) w' := by
  have c5 : w.cell? ⟨P, 5, none⟩ = some (.bool x.rq.wts) := by rw [cell_at h.px]; rfl
  have c11 : w.cell? ⟨P, 11, none⟩ = some (.int .i64 x.rq.left) := by rw [cell_at h.px]; rfl
  have c12 : w.cell? ⟨P, 12, none⟩ = some (.pointer (some ⟨x.rq.pb, 0, none⟩)) := by rw [cell_at h.px]; rfl
  rw [hw] at c5
  rw [hl] at c11
  have f7 := free_at h.px 11
  have A := h.setBlk 11 (.int .i64 0)
  have c9 : (w.setCell ⟨P, 11, none⟩ (.int .i64 0)).cell? ⟨P, 11, none⟩ = some (.int .i64 0) := by rw [cell_at A.1.2.1]; rfl
  have c10 : (w.setCell ⟨P, 11, none⟩ (.int .i64 0)).cell? ⟨P, 12, none⟩ = some (.pointer (some ⟨x.rq.pb, 0, none⟩)) := by rw [cell_at A.1.2.1]; rfl
  have f10 := free_at A.1.2.1 11
  have N := hid (next53 A.swap h1 h2 h3)
  have c9 := hid c9
  have c10 := hid c10
  have f10 := hid f10
  clear h hw hl h1 h2 h3 A
  go_enter Tryz.func77, Tryz.ntmps77
  go_upto_region 4 with fail
  generalize w.setCell ⟨P, 11, none⟩ (.int .i64 0) = w1 at c9 c10 f10 N ⊢
  clear c5 c11 c12 f7
  have c9 := c9.out
  have c10 := c10.out
  have f10 := f10.out
  go_wp2_with fail
  refine N.out.mono ?_
  rintro e w2 ⟨rfl, A2⟩
  have A3 := A2.swap
  have d7 : w2.cell? ⟨P, 11, none⟩ = some (.int .i64 0) := by rw [cell_at A3.1.2.1]; rfl
  have g7 := free_at A3.1.2.1 11
  have A4 := hid (A3.setBlk 11 (.int .i64 n1))
  clear A2 A3 N c9 c10 f10
  go_wp2
  go_ret
  exact ⟨rfl, A4.out⟩

theorem awaitsQ {P : Nat} {x : Px} {b m n1 n2 : Int} {cs : List Comp} {w : World} (h : All (pxL P x b m n1 n2 ++ cs) w) (k : Int) : Calls Tryz.prog 57 #[.pointer (some ⟨P, 13, none⟩), .int .i64 k] w fun e w' => e = .returned (.bool (x.qu.wts && (x.qu.num == k))) ∧ w' = w := by
  have c13 : w.cell? ⟨P, 13, none⟩ = some (.int .i64 x.qu.num) := by rw [cell_at h.px]; rfl
  have c14 : w.cell? ⟨P, 14, none⟩ = some (.bool x.qu.wts) := by rw [cell_at h.px]; rfl
  clear h
  obtain ⟨b1, hb1⟩ : ∃ b1, Hid (b1 = x.qu.wts) := ⟨_, hid rfl⟩
  rw [← hb1.out] at c14 ⊢
  clear hb1
  cases b1
  all_goals
    go_enter Tryz.func57, Tryz.ntmps57
    go_wp2
    go_ret
    exact ⟨rfl, rfl⟩

theorem tickQ_no {P : Nat} {x : Px} {b m n1 n2 : Int} {cs : List Comp} {w : World} (h : All (pxL P x b m n1 n2 ++ cs) w) (hw : x.qu.wts = false) : Calls Tryz.prog 77 #[.pointer (some ⟨P, 13, none⟩)] w fun e w' => e = .returned (.bool false) ∧ w' = w := by
  have c14 : w.cell? ⟨P, 14, none⟩ = some (.bool x.qu.wts) := by rw [cell_at h.px]; rfl
  rw [hw] at c14
  clear h hw
  go_enter Tryz.func77, Tryz.ntmps77
  go_wp2
  go_ret
  exact ⟨rfl, rfl⟩
theorem tickQ_less {P : Nat} {x : Px} {b m n1 n2 : Int} {cs : List Comp} {w : World} (h : All (pxL P x b m n1 n2 ++ cs) w) (hw : x.qu.wts = true) (hl : 1 < x.qu.left) (hl2 : x.qu.left ≤ 1024) : Calls Tryz.prog 77 #[.pointer (some ⟨P, 13, none⟩)] w fun e w' => e = .returned (.bool false) ∧ All (pxL P { x with qu := { x.qu with left := x.qu.left - 1 } } b m n1 n2 ++ cs) w' := by
  have c14 : w.cell? ⟨P, 14, none⟩ = some (.bool x.qu.wts) := by rw [cell_at h.px]; rfl
  have c20 : w.cell? ⟨P, 20, none⟩ = some (.int .i64 x.qu.left) := by rw [cell_at h.px]; rfl
  rw [hw] at c14
  have f7 := free_at h.px 20
  have A := hid (h.setBlk 20 (.int .i64 (x.qu.left - 1)))
  have e1 : IntKind.i64.wrap (x.qu.left - 1) = x.qu.left - 1 := by rw [IntKind.wrap_i64]; omega
  have e2 : decide (1 < x.qu.left) = true := by simpa using hl
  have c9 : (w.setCell ⟨P, 20, none⟩ (.int .i64 (x.qu.left - 1))).cell? ⟨P, 20, none⟩ = some (.int .i64 (x.qu.left - 1)) := by rw [cell_at A.out.1.2.1]; rfl
  clear h hw hl2
  go_enter Tryz.func77, Tryz.ntmps77
  go_wp2
  go_ret
  exact ⟨rfl, A.out⟩
theorem tickQ_yes {P : Nat} {x : Px} {b m n1 n2 : Int} {cs : List Comp} {w : World} (h : All (pxL P x b m n1 n2 ++ cs) w) (hw : x.qu.wts = true) (hl : x.qu.left = 1) (h1 : 1 ≤ n2) (h2 : n2 ≤ m) (h3 : m ≤ 1024) : Calls Tryz.prog 77 #[.pointer (some ⟨P, 13, none⟩)] w fun e w' => e = .returned (.bool true) ∧ All (pxL P { x with qu := { x.qu with left := n2 } } b m n1 (min (2 * n2) m) ++ cs) w' := by
  have c14 : w.cell? ⟨P, 14, none⟩ = some (.bool x.qu.wts) := by rw [cell_at h.px]; rfl
  have c20 : w.cell? ⟨P, 20, none⟩ = some (.int .i64 x.qu.left) := by rw [cell_at h.px]; rfl
  have c21 : w.cell? ⟨P, 21, none⟩ = some (.pointer (some ⟨x.qu.pb, 0, none⟩)) := by rw [cell_at h.px]; rfl
  rw [hw] at c14
  rw [hl] at c20
  have f7 := free_at h.px 20
  have A := h.setBlk 20 (.int .i64 0)
  have c9 : (w.setCell ⟨P, 20, none⟩ (.int .i64 0)).cell? ⟨P, 20, none⟩ = some (.int .i64 0) := by rw [cell_at A.1.2.1]; rfl
  have c10 : (w.setCell ⟨P, 20, none⟩ (.int .i64 0)).cell? ⟨P, 21, none⟩ = some (.pointer (some ⟨x.qu.pb, 0, none⟩)) := by rw [cell_at A.1.2.1]; rfl
  have f10 := free_at A.1.2.1 20
  have N := hid (next53 (A.perm (List.perm_middle (l₁ := [blkC P (x.cells.set 20 (.int .i64 0)) 111, boC x.rq.pb b m n1]))) h1 h2 h3)
  have c9 := hid c9
  have c10 := hid c10
  have f10 := hid f10
  clear h hw hl h1 h2 h3 A
  go_enter Tryz.func77, Tryz.ntmps77
  go_upto_region 4 with fail
  generalize w.setCell ⟨P, 20, none⟩ (.int .i64 0) = w1 at c9 c10 f10 N ⊢
  clear c14 c20 c21 f7
  have c9 := c9.out
  have c10 := c10.out
  have f10 := f10.out
  go_wp2_with fail
  refine N.out.mono ?_
  rintro e w2 ⟨rfl, A2⟩
  have A3 := (A2.swap).perm (List.Perm.cons _ (List.Perm.swap _ _ _))
  have d7 : w2.cell? ⟨P, 20, none⟩ = some (.int .i64 0) := by rw [cell_at A3.1.2.1]; rfl
  have g7 := free_at A3.1.2.1 20
  have A4 := hid (A3.setBlk 20 (.int .i64 n2))
  clear A2 A3 N c9 c10 f10
  go_wp2
  go_ret
  exact ⟨rfl, A4.out⟩
end Go.Proofs.YtdhkdniddjnigaaGreatDoor

namespace Go.Proofs.YtdhkdniddjnigaaGreatDoor
open Go.RowKit
set_option linter.unusedVariables false

theorem begR_busy {P : Nat} {x : Px} {b m n1 n2 : Int} {cs : List Comp} {w : World} (h : All (pxL P x b m n1 n2 ++ cs) w) (hw : x.rq.wts = true) (v : Value) (hv : ∃ k nm tx a d, v = opV k nm tx a d) : Calls Tryz.prog 212 #[.pointer (some ⟨P, 4, none⟩), v] w fun e w' => e = .returned (.int .i64 141) ∧ All (pxL P x b m n1 n2 ++ cs) w' := by
  obtain ⟨k, nm, tx, a, d, rfl⟩ := hv
  have c5 : w.cell? ⟨P, 5, none⟩ = some (.bool x.rq.wts) := by rw [cell_at h.px]; rfl
  rw [hw] at c5
  have hP : P < w.heap.size := h.1.2.2 P (by simp [blkC])
  have A := hid (h.alloc (.cells #[.int .i64 k, .string nm, .string tx, .int .i64 a, .int .i64 d] 42))
  clear h hw
  go_enter Tryz.func212, Tryz.ntmps212
  go_wp2
  go_ret
  exact ⟨rfl, A.out⟩
theorem begR_end {P : Nat} {x : Px} {b m n1 n2 : Int} {cs : List Comp} {w : World} (h : All (pxL P x b m n1 n2 ++ cs) w) (hw : x.rq.wts = false) (hn : x.rq.num = 1099511627776) (v : Value) (hv : ∃ k nm tx a d, v = opV k nm tx a d) : Calls Tryz.prog 212 #[.pointer (some ⟨P, 4, none⟩), v] w fun e w' => e = .returned (.int .i64 142) ∧ All (pxL P x b m n1 n2 ++ cs) w' := by
  obtain ⟨k, nm, tx, a, d, rfl⟩ := hv
  have c4 : w.cell? ⟨P, 4, none⟩ = some (.int .i64 x.rq.num) := by rw [cell_at h.px]; rfl
  have c5 : w.cell? ⟨P, 5, none⟩ = some (.bool x.rq.wts) := by rw [cell_at h.px]; rfl
  rw [hw] at c5
  rw [hn] at c4
  have hP : P < w.heap.size := h.1.2.2 P (by simp [blkC])
  have A := hid (h.alloc (.cells #[.int .i64 k, .string nm, .string tx, .int .i64 a, .int .i64 d] 42))
  clear h hw hn
  go_enter Tryz.func212, Tryz.ntmps212
  go_wp2
  go_ret
  exact ⟨rfl, A.out⟩
set_option maxHeartbeats 1600000 in
set_option maxRecDepth 1000000 in
theorem begR_ok {P : Nat} {x : Px} {b m n1 n2 : Int} {cs : List Comp} {w : World} (h : All (pxL P x b m n1 n2 ++ cs) w) (hw : x.rq.wts = false) (hn : 0 ≤ x.rq.num) (hn2 : x.rq.num < 1099511627776) (h1 : 1 ≤ n1) (h2 : n1 ≤ m) (h3 : m ≤ 1024) (k : Int) (nm tx : ByteArray) (a d : Int) : Calls Tryz.prog 212 #[.pointer (some ⟨P, 4, none⟩), opV k nm tx a d] w fun e w' => e = .returned (.int .i64 0) ∧ All (pxL P { x with rq := { x.rq with num := x.rq.num + 1, wts := true, ok := k, onm := nm, otx := tx, on := a, om := d, left := n1 } } b m (min (2 * n1) m) n2 ++ cs) w' := by
  have hP : P < w.heap.size := h.1.2.2 P (by simp [blkC])
  have c4 : w.cell? ⟨P, 4, none⟩ = some (.int .i64 x.rq.num) := by rw [cell_at h.px]; rfl
  have c5 : w.cell? ⟨P, 5, none⟩ = some (.bool x.rq.wts) := by rw [cell_at h.px]; rfl
  rw [hw] at c5
  have f0 := free_at h.px 4
  have A := (h.addBlk [.int .i64 k, .string nm, .string tx, .int .i64 a, .int .i64 d] 42).swap
  obtain ⟨H, hH⟩ : ∃ H, Hid (H = w.heap.size) := ⟨_, hid rfl⟩
  rw [← hH.out] at A
  have A1 := hid (A.setBlk 4 (.int .i64 (x.rq.num + 1)))
  have e1 : IntKind.i64.wrap (x.rq.num + 1) = x.rq.num + 1 := by rw [IntKind.wrap_i64]; omega
  have e2 : (x.rq.num == 1099511627776) = false := by simp; omega
  have H1 := hid h1
  have H2 := hid h2
  have H3 := hid h3
  have hw := hid hw
  clear h hn hn2 A h1 h2 h3
  go_enter Tryz.func212, Tryz.ntmps212
  go_upto_region 6 with fail
  rw [← hH.out]
  have A1 : Hid (All (blkC P (x.cells.set 4 (.int .i64 (x.rq.num + 1))) 111 :: blkC H [.int .i64 k, .string nm, .string tx, .int .i64 a, .int .i64 d] 42 :: (boC x.rq.pb b m n1 :: boC x.qu.pb b m n2 :: cs)) ((w.setCell ⟨P, 4, none⟩ (.int .i64 (x.rq.num + 1))).alloc (.cells #[.int .i64 k, .string nm, .string tx, .int .i64 a, .int .i64 d] 42))) := hid (by rw [← World.setCell_alloc_past _ _ _ _ hP]; exact A1.out)
  generalize (w.setCell ⟨P, 4, none⟩ (.int .i64 (x.rq.num + 1))).alloc (.cells #[.int .i64 k, .string nm, .string tx, .int .i64 a, .int .i64 d] 42) = w1 at A1 ⊢
  clear c4 c5 f0
  have SF : Hid (∀ W Z X Y cs', Z[12]? = some (.pointer (some ⟨x.rq.pb, 0, none⟩)) → All (blkC P Z 111 :: blkC H [.int .i64 k, .string nm, .string tx, .int .i64 a, .int .i64 d] 42 :: X :: Y :: cs') W → W.cell? ⟨H, 0, none⟩ = some (.int .i64 k) ∧ W.cell? ⟨H, 1, none⟩ = some (.string nm) ∧ W.cell? ⟨H, 2, none⟩ = some (.string tx) ∧ W.cell? ⟨H, 3, none⟩ = some (.int .i64 a) ∧ W.cell? ⟨H, 4, none⟩ = some (.int .i64 d) ∧ W.cell? ⟨P, 12, none⟩ = some (.pointer (some ⟨x.rq.pb, 0, none⟩))) := hid (fun W Z X Y cs' hZ hW => by
    refine ⟨?_, ?_, ?_, ?_, ?_, ?_⟩
    · rw [cell_at hW.tail.1.2.1]; rfl
    · rw [cell_at hW.tail.1.2.1]; rfl
    · rw [cell_at hW.tail.1.2.1]; rfl
    · rw [cell_at hW.tail.1.2.1]; rfl
    · rw [cell_at hW.tail.1.2.1]; rfl
    · rw [cell_at hW.1.2.1]; simpa using hZ)
  have A2 := hid A1.out.drew
  have p0 := hid (SF.out _ _ _ _ _ rfl A2.out)
  have N := hid (next53 (A2.out.perm (List.perm_middle (l₁ := [blkC P (x.cells.set 4 (.int .i64 (x.rq.num + 1))) 111, blkC H [.int .i64 k, .string nm, .string tx, .int .i64 a, .int .i64 d] 42]))) H1.out H2.out H3.out)
  go_region_held3 (fun W => W.cell? ⟨H, 0, none⟩ = some (.int .i64 k) ∧ W.cell? ⟨H, 1, none⟩ = some (.string nm) ∧ W.cell? ⟨H, 2, none⟩ = some (.string tx) ∧ W.cell? ⟨H, 3, none⟩ = some (.int .i64 a) ∧ W.cell? ⟨H, 4, none⟩ = some (.int .i64 d) ∧ W.cell? ⟨P, 12, none⟩ = some (.pointer (some ⟨x.rq.pb, 0, none⟩))) (first | with_reducible exact p0.out | with_reducible exact p1.out | with_reducible exact p2.out | with_reducible exact p3.out | with_reducible exact p4.out)
    (first
      | (go_at_call 118; refine N.out.mono ?_; rintro e w2 ⟨rfl, hw2⟩; have A3 := hid (hw2.perm (List.perm_middle (l₁ := [blkC P (x.cells.set 4 (.int .i64 (x.rq.num + 1))) 111, blkC H [.int .i64 k, .string nm, .string tx, .int .i64 a, .int .i64 d] 42])).symm); have p1 := hid (SF.out _ _ _ _ _ rfl A3.out); have d5 : w2.cell? ⟨P, 5, none⟩ = some (.bool false) := (by rw [cell_at A3.out.1.2.1, ← hw.out]; rfl); have g5 : w2.frozen? ⟨P, 5, none⟩ = false := free_at A3.out.1.2.1 5; have d6 : w2.cell? ⟨P, 6, none⟩ = some (.int .i64 x.rq.ok) := (by rw [cell_at A3.out.1.2.1]; rfl); have g6 : w2.frozen? ⟨P, 6, none⟩ = false := free_at A3.out.1.2.1 6; have d7 : w2.cell? ⟨P, 7, none⟩ = some (.string x.rq.onm) := (by rw [cell_at A3.out.1.2.1]; rfl); have g7 : w2.frozen? ⟨P, 7, none⟩ = false := free_at A3.out.1.2.1 7; have d8 : w2.cell? ⟨P, 8, none⟩ = some (.string x.rq.otx) := (by rw [cell_at A3.out.1.2.1]; rfl); have g8 : w2.frozen? ⟨P, 8, none⟩ = false := free_at A3.out.1.2.1 8; have d9 : w2.cell? ⟨P, 9, none⟩ = some (.int .i64 x.rq.on) := (by rw [cell_at A3.out.1.2.1]; rfl); have g9 : w2.frozen? ⟨P, 9, none⟩ = false := free_at A3.out.1.2.1 9; have d10 : w2.cell? ⟨P, 10, none⟩ = some (.int .i64 x.rq.om) := (by rw [cell_at A3.out.1.2.1]; rfl); have g10 : w2.frozen? ⟨P, 10, none⟩ = false := free_at A3.out.1.2.1 10; have d11 : w2.cell? ⟨P, 11, none⟩ = some (.int .i64 x.rq.left) := (by rw [cell_at A3.out.1.2.1]; rfl); have g11 : w2.frozen? ⟨P, 11, none⟩ = false := free_at A3.out.1.2.1 11; have A4 := hid (A3.out.setBlk 5 (.bool true)); have p2 := hid (SF.out _ _ _ _ _ rfl A4.out); have A5 := hid (((((A4.out.setBlk 6 (.int .i64 k)).setBlk 7 (.string nm)).setBlk 8 (.string tx)).setBlk 9 (.int .i64 a)).setBlk 10 (.int .i64 d)); have p3 := hid (SF.out _ _ _ _ _ rfl A5.out); have A6 := hid (A5.out.setBlk 11 (.int .i64 n1)); have p4 := hid (SF.out _ _ _ _ _ rfl A6.out); clear hw2))
  have A7 := hid (A6.out.swap.tail)
  generalize ((((((w2.setCell ⟨P, 5, none⟩ (.bool true)).setCell ⟨P, 6, none⟩ (.int .i64 k)).setCell ⟨P, 7, none⟩ (.string nm)).setCell ⟨P, 8, none⟩ (.string tx)).setCell ⟨P, 9, none⟩ (.int .i64 a)).setCell ⟨P, 10, none⟩ (.int .i64 d)).setCell ⟨P, 11, none⟩ (.int .i64 n1) = w3 at A7 ⊢
  clear p0 p1 p2 p3 p4 A6 A5 A4 A3 A2 A1 SF N d5 g5 d6 g6 d7 g7 d8 g8 d9 g9 d10 g10 d11 g11
  go_wp2
  go_ret
  exact ⟨rfl, A7.out⟩

theorem begQ_busy {P : Nat} {x : Px} {b m n1 n2 : Int} {cs : List Comp} {w : World} (h : All (pxL P x b m n1 n2 ++ cs) w) (hw : x.qu.wts = true) (v : Value) (hv : ∃ k nm tx a d, v = opV k nm tx a d) : Calls Tryz.prog 212 #[.pointer (some ⟨P, 13, none⟩), v] w fun e w' => e = .returned (.int .i64 141) ∧ All (pxL P x b m n1 n2 ++ cs) w' := by
  obtain ⟨k, nm, tx, a, d, rfl⟩ := hv
  have c14 : w.cell? ⟨P, 14, none⟩ = some (.bool x.qu.wts) := by rw [cell_at h.px]; rfl
  rw [hw] at c14
  have hP : P < w.heap.size := h.1.2.2 P (by simp [blkC])
  have A := hid (h.alloc (.cells #[.int .i64 k, .string nm, .string tx, .int .i64 a, .int .i64 d] 42))
  clear h hw
  go_enter Tryz.func212, Tryz.ntmps212
  go_wp2
  go_ret
  exact ⟨rfl, A.out⟩
theorem begQ_end {P : Nat} {x : Px} {b m n1 n2 : Int} {cs : List Comp} {w : World} (h : All (pxL P x b m n1 n2 ++ cs) w) (hw : x.qu.wts = false) (hn : x.qu.num = 1099511627776) (v : Value) (hv : ∃ k nm tx a d, v = opV k nm tx a d) : Calls Tryz.prog 212 #[.pointer (some ⟨P, 13, none⟩), v] w fun e w' => e = .returned (.int .i64 142) ∧ All (pxL P x b m n1 n2 ++ cs) w' := by
  obtain ⟨k, nm, tx, a, d, rfl⟩ := hv
  have c13 : w.cell? ⟨P, 13, none⟩ = some (.int .i64 x.qu.num) := by rw [cell_at h.px]; rfl
  have c14 : w.cell? ⟨P, 14, none⟩ = some (.bool x.qu.wts) := by rw [cell_at h.px]; rfl
  rw [hw] at c14
  rw [hn] at c13
  have hP : P < w.heap.size := h.1.2.2 P (by simp [blkC])
  have A := hid (h.alloc (.cells #[.int .i64 k, .string nm, .string tx, .int .i64 a, .int .i64 d] 42))
  clear h hw hn
  go_enter Tryz.func212, Tryz.ntmps212
  go_wp2
  go_ret
  exact ⟨rfl, A.out⟩
set_option maxHeartbeats 1600000 in
set_option maxRecDepth 1000000 in
theorem begQ_ok {P : Nat} {x : Px} {b m n1 n2 : Int} {cs : List Comp} {w : World} (h : All (pxL P x b m n1 n2 ++ cs) w) (hw : x.qu.wts = false) (hn : 0 ≤ x.qu.num) (hn2 : x.qu.num < 1099511627776) (h1 : 1 ≤ n2) (h2 : n2 ≤ m) (h3 : m ≤ 1024) (k : Int) (nm tx : ByteArray) (a d : Int) : Calls Tryz.prog 212 #[.pointer (some ⟨P, 13, none⟩), opV k nm tx a d] w fun e w' => e = .returned (.int .i64 0) ∧ All (pxL P { x with qu := { x.qu with num := x.qu.num + 1, wts := true, ok := k, onm := nm, otx := tx, on := a, om := d, left := n2 } } b m n1 (min (2 * n2) m) ++ cs) w' := by
  have hP : P < w.heap.size := h.1.2.2 P (by simp [blkC])
  have c13 : w.cell? ⟨P, 13, none⟩ = some (.int .i64 x.qu.num) := by rw [cell_at h.px]; rfl
  have c14 : w.cell? ⟨P, 14, none⟩ = some (.bool x.qu.wts) := by rw [cell_at h.px]; rfl
  rw [hw] at c14
  have f0 := free_at h.px 13
  have A := (h.addBlk [.int .i64 k, .string nm, .string tx, .int .i64 a, .int .i64 d] 42).swap
  obtain ⟨H, hH⟩ : ∃ H, Hid (H = w.heap.size) := ⟨_, hid rfl⟩
  rw [← hH.out] at A
  have A1 := hid (A.setBlk 13 (.int .i64 (x.qu.num + 1)))
  have e1 : IntKind.i64.wrap (x.qu.num + 1) = x.qu.num + 1 := by rw [IntKind.wrap_i64]; omega
  have e2 : (x.qu.num == 1099511627776) = false := by simp; omega
  have H1 := hid h1
  have H2 := hid h2
  have H3 := hid h3
  have hw := hid hw
  clear h hn hn2 A h1 h2 h3
  go_enter Tryz.func212, Tryz.ntmps212
  go_upto_region 6 with fail
  rw [← hH.out]
  have A1 : Hid (All (blkC P (x.cells.set 13 (.int .i64 (x.qu.num + 1))) 111 :: blkC H [.int .i64 k, .string nm, .string tx, .int .i64 a, .int .i64 d] 42 :: (boC x.rq.pb b m n1 :: boC x.qu.pb b m n2 :: cs)) ((w.setCell ⟨P, 13, none⟩ (.int .i64 (x.qu.num + 1))).alloc (.cells #[.int .i64 k, .string nm, .string tx, .int .i64 a, .int .i64 d] 42))) := hid (by rw [← World.setCell_alloc_past _ _ _ _ hP]; exact A1.out)
  generalize (w.setCell ⟨P, 13, none⟩ (.int .i64 (x.qu.num + 1))).alloc (.cells #[.int .i64 k, .string nm, .string tx, .int .i64 a, .int .i64 d] 42) = w1 at A1 ⊢
  clear c13 c14 f0
  have SF : Hid (∀ W Z X Y cs', Z[21]? = some (.pointer (some ⟨x.qu.pb, 0, none⟩)) → All (blkC P Z 111 :: blkC H [.int .i64 k, .string nm, .string tx, .int .i64 a, .int .i64 d] 42 :: X :: Y :: cs') W → W.cell? ⟨H, 0, none⟩ = some (.int .i64 k) ∧ W.cell? ⟨H, 1, none⟩ = some (.string nm) ∧ W.cell? ⟨H, 2, none⟩ = some (.string tx) ∧ W.cell? ⟨H, 3, none⟩ = some (.int .i64 a) ∧ W.cell? ⟨H, 4, none⟩ = some (.int .i64 d) ∧ W.cell? ⟨P, 21, none⟩ = some (.pointer (some ⟨x.qu.pb, 0, none⟩))) := hid (fun W Z X Y cs' hZ hW => by
    refine ⟨?_, ?_, ?_, ?_, ?_, ?_⟩
    · rw [cell_at hW.tail.1.2.1]; rfl
    · rw [cell_at hW.tail.1.2.1]; rfl
    · rw [cell_at hW.tail.1.2.1]; rfl
    · rw [cell_at hW.tail.1.2.1]; rfl
    · rw [cell_at hW.tail.1.2.1]; rfl
    · rw [cell_at hW.1.2.1]; simpa using hZ)
  have A2 := hid A1.out.drew
  have p0 := hid (SF.out _ _ _ _ _ rfl A2.out)
  have N := hid (next53 (A2.out.perm (List.perm_middle (l₁ := [blkC P (x.cells.set 13 (.int .i64 (x.qu.num + 1))) 111, blkC H [.int .i64 k, .string nm, .string tx, .int .i64 a, .int .i64 d] 42, boC x.rq.pb b m n1]))) H1.out H2.out H3.out)
  go_region_held3 (fun W => W.cell? ⟨H, 0, none⟩ = some (.int .i64 k) ∧ W.cell? ⟨H, 1, none⟩ = some (.string nm) ∧ W.cell? ⟨H, 2, none⟩ = some (.string tx) ∧ W.cell? ⟨H, 3, none⟩ = some (.int .i64 a) ∧ W.cell? ⟨H, 4, none⟩ = some (.int .i64 d) ∧ W.cell? ⟨P, 21, none⟩ = some (.pointer (some ⟨x.qu.pb, 0, none⟩))) (first | with_reducible exact p0.out | with_reducible exact p1.out | with_reducible exact p2.out | with_reducible exact p3.out | with_reducible exact p4.out)
    (first
      | (go_at_call 118; refine N.out.mono ?_; rintro e w2 ⟨rfl, hw2⟩; have A3 := hid (hw2.perm (List.perm_middle (l₁ := [blkC P (x.cells.set 13 (.int .i64 (x.qu.num + 1))) 111, blkC H [.int .i64 k, .string nm, .string tx, .int .i64 a, .int .i64 d] 42, boC x.rq.pb b m n1])).symm); have p1 := hid (SF.out _ _ _ _ _ rfl A3.out); have d14 : w2.cell? ⟨P, 14, none⟩ = some (.bool false) := (by rw [cell_at A3.out.1.2.1, ← hw.out]; rfl); have g14 : w2.frozen? ⟨P, 14, none⟩ = false := free_at A3.out.1.2.1 14; have d15 : w2.cell? ⟨P, 15, none⟩ = some (.int .i64 x.qu.ok) := (by rw [cell_at A3.out.1.2.1]; rfl); have g15 : w2.frozen? ⟨P, 15, none⟩ = false := free_at A3.out.1.2.1 15; have d16 : w2.cell? ⟨P, 16, none⟩ = some (.string x.qu.onm) := (by rw [cell_at A3.out.1.2.1]; rfl); have g16 : w2.frozen? ⟨P, 16, none⟩ = false := free_at A3.out.1.2.1 16; have d17 : w2.cell? ⟨P, 17, none⟩ = some (.string x.qu.otx) := (by rw [cell_at A3.out.1.2.1]; rfl); have g17 : w2.frozen? ⟨P, 17, none⟩ = false := free_at A3.out.1.2.1 17; have d18 : w2.cell? ⟨P, 18, none⟩ = some (.int .i64 x.qu.on) := (by rw [cell_at A3.out.1.2.1]; rfl); have g18 : w2.frozen? ⟨P, 18, none⟩ = false := free_at A3.out.1.2.1 18; have d19 : w2.cell? ⟨P, 19, none⟩ = some (.int .i64 x.qu.om) := (by rw [cell_at A3.out.1.2.1]; rfl); have g19 : w2.frozen? ⟨P, 19, none⟩ = false := free_at A3.out.1.2.1 19; have d20 : w2.cell? ⟨P, 20, none⟩ = some (.int .i64 x.qu.left) := (by rw [cell_at A3.out.1.2.1]; rfl); have g20 : w2.frozen? ⟨P, 20, none⟩ = false := free_at A3.out.1.2.1 20; have A4 := hid (A3.out.setBlk 14 (.bool true)); have p2 := hid (SF.out _ _ _ _ _ rfl A4.out); have A5 := hid (((((A4.out.setBlk 15 (.int .i64 k)).setBlk 16 (.string nm)).setBlk 17 (.string tx)).setBlk 18 (.int .i64 a)).setBlk 19 (.int .i64 d)); have p3 := hid (SF.out _ _ _ _ _ rfl A5.out); have A6 := hid (A5.out.setBlk 20 (.int .i64 n2)); have p4 := hid (SF.out _ _ _ _ _ rfl A6.out); clear hw2))
  have A7 := hid (A6.out.swap.tail)
  generalize ((((((w2.setCell ⟨P, 14, none⟩ (.bool true)).setCell ⟨P, 15, none⟩ (.int .i64 k)).setCell ⟨P, 16, none⟩ (.string nm)).setCell ⟨P, 17, none⟩ (.string tx)).setCell ⟨P, 18, none⟩ (.int .i64 a)).setCell ⟨P, 19, none⟩ (.int .i64 d)).setCell ⟨P, 20, none⟩ (.int .i64 n2) = w3 at A7 ⊢
  clear p0 p1 p2 p3 p4 A6 A5 A4 A3 A2 A1 SF N d14 g14 d15 g15 d16 g16 d17 g17 d18 g18 d19 g19 d20 g20
  go_wp2
  go_ret
  exact ⟨rfl, A7.out⟩
end Go.Proofs.YtdhkdniddjnigaaGreatDoor

namespace Go.Proofs.YtdhkdniddjnigaaGreatDoor
open Go.RowKit
set_option linter.unusedVariables false
theorem yieldsIf_build {P : Program} {ops : Array Oper} {S : World → Prop} {op : Oper} {a : Act} (hw : Region.wanted op (yielded ops a.tmps) = true) (t : TypeId) (parts : Array (Nat × Operand)) (ho : op.op = .build t parts)
    (cells : Array Value) (hf : P.built t (parts.map fun (i, x) => (i, a.eval x)).toList = some cells) : YieldsIf P ops S op (.agg cells) a :=
  .inl ⟨hw, fun w _ => by
    unfold execOp
    simp only [ho, Sem.run_bind, run_build w t _ _ hf, Result.andThen_ok]
    rfl⟩
/-- A request. -/
def rqM (f t : Int) (x : Wt) : Ms := ⟨1, f, t, 0, 0, 0, 0, 0, x.num, false, x.ok, x.onm, x.otx, x.on, x.om, 0, 0, none, 0, 0, none, 0, 0, 0, 0, none, 0, 0, none, 0, 0⟩
/-- A question. -/
def asM (f t l : Int) (x : Wt) : Ms := ⟨14, f, t, 0, l, 0, 0, 0, x.num, false, x.ok, x.onm, x.otx, x.on, x.om, 0, 0, none, 0, 0, none, 0, 0, 0, 0, none, 0, 0, none, 0, 0⟩
def zM : Ms := ⟨0, 0, 0, 0, 0, 0, 0, 0, 0, false, 0, ⟨#[]⟩, ⟨#[]⟩, 0, 0, 0, 0, none, 0, 0, none, 0, 0, 0, 0, none, 0, 0, none, 0, 0⟩
theorem All.setRow {g : Nat} {vs vs' : List Value} {t : TypeId} {cs : List Comp} {w : World} (h : All (blkC g vs t :: cs) w) : All (blkC g vs' t :: cs) (w.setRow g vs'.toArray) := by
  have hg : w.heap[g]? = some (.cells vs.toArray t (0, 0)) := h.1.2.1
  refine h.turn ⟨rfl, rfl, rfl, by simp [World.setRow], fun k hk hn => ?_⟩ (blkC_good _ _ _) (setRow_heap w g _ _ t (0, 0) hg) (fun k hk => Or.inl hk) (fun k hk => ?_)
  · exact setRow_other w g k _ (by simpa [blkC] using hn)
  · have : k = g := by simpa [blkC] using hk
    subst this
    simpa [World.setRow] using h.1.2.2 k (by simp [blkC])
theorem info41 (m : Ms) : (Tryz.prog.info? 51).map (·.size) = some m.cells.toArray.size := show (Tryz.prog.info? 51).map (·.size) = some 23 by kernel_rfl
theorem one41 (m : Ms) : m.cells.toArray.all (·.oneCell') = true := by simp [Ms.cells, Value.oneCell']

set_option maxHeartbeats 1600000 in
set_option maxRecDepth 1000000 in
theorem msgR {P : Nat} {x : Px} {b m n1 n2 : Int} {cs : List Comp} {w : World} (h : All (pxL P x b m n1 n2 ++ cs) w) (f t : Int) : Calls Tryz.prog 78 #[.pointer (some ⟨P, 4, none⟩), .int .i64 f, .int .i64 t] w fun e w' => e = .returned (.agg (rqM f t x.rq).cells.toArray) ∧ Below w.heap.size w w' := by
  obtain ⟨G, hG⟩ : ∃ G, Hid (G = w.heap.size) := ⟨_, hid rfl⟩
  have A1 : Hid (All (blkC G zM.cells 51 :: inC w :: []) (w.alloc (.cells zM.cells.toArray 51))) := hid (by rw [hG.out]; exact (All.came w).addBlk zM.cells 51)
  have SF : Hid (∀ W, Below w.heap.size w W → (fun W => W.cell? ⟨P, 4, none⟩ = some (.int .i64 x.rq.num) ∧ W.cell? ⟨P, 6, none⟩ = some (.int .i64 x.rq.ok) ∧ W.cell? ⟨P, 7, none⟩ = some (.string x.rq.onm) ∧ W.cell? ⟨P, 8, none⟩ = some (.string x.rq.otx) ∧ W.cell? ⟨P, 9, none⟩ = some (.int .i64 x.rq.on) ∧ W.cell? ⟨P, 10, none⟩ = some (.int .i64 x.rq.om)) W) := hid (fun W hW => ⟨cell_under hW (h.1.2.2 P (by simp [blkC])) (by rw [cell_at h.px]; rfl), cell_under hW (h.1.2.2 P (by simp [blkC])) (by rw [cell_at h.px]; rfl), cell_under hW (h.1.2.2 P (by simp [blkC])) (by rw [cell_at h.px]; rfl), cell_under hW (h.1.2.2 P (by simp [blkC])) (by rw [cell_at h.px]; rfl), cell_under hW (h.1.2.2 P (by simp [blkC])) (by rw [cell_at h.px]; rfl), cell_under hW (h.1.2.2 P (by simp [blkC])) (by rw [cell_at h.px]; rfl)⟩)
  have eZ : Hid (zM.cells.toArray = #[.int .i64 0, .int .i64 0, .int .i64 0, .int .i64 0, .int .i64 0, .int .i64 0, .int .i64 0, .int .i64 0, .int .i64 0, .bool false, .int .i64 0, .string ⟨#[]⟩, .string ⟨#[]⟩, .int .i64 0, .int .i64 0, .int .i64 0, .int .i64 0, .slice none 0 0, .slice none 0 0, .int .i64 0, .int .i64 0, .slice none 0 0, .slice none 0 0]) := hid rfl
  have I41 := hid (info41 (rqM f t x.rq))
  have O41 := hid (one41 (rqM f t x.rq))
  have Z41 : Hid (zM.cells.toArray.size = (rqM f t x.rq).cells.toArray.size) := hid rfl
  obtain ⟨MM, hMM⟩ : ∃ MM, Hid (MM = (rqM f t x.rq).cells) := ⟨_, hid rfl⟩
  rw [← hMM.out] at I41 O41 Z41 ⊢
  clear h
  go_enter Tryz.func78, Tryz.ntmps78
  go_upto_region 1 with fail
  rw [← eZ.out]
  simp only [← hG.out]
  generalize w.alloc (.cells zM.cells.toArray 51) = w1 at A1 ⊢
  have A2 := hid A1.out.drew
  have p0 := hid (SF.out _ (A2.out.into (by simp)))
  have A3 := hid (A2.out.setRow (vs' := MM))
  have hg2 : Hid (w1.drew.heap[G]? = some (.cells zM.cells.toArray 51 (0, 0))) := hid A2.out.1.2.1
  have p1 := hid (SF.out _ (A3.out.into (by simp)))
  refine wp_region_held_drew (S := (fun W => W.cell? ⟨P, 4, none⟩ = some (.int .i64 x.rq.num) ∧ W.cell? ⟨P, 6, none⟩ = some (.int .i64 x.rq.ok) ∧ W.cell? ⟨P, 7, none⟩ = some (.string x.rq.onm) ∧ W.cell? ⟨P, 8, none⟩ = some (.string x.rq.otx) ∧ W.cell? ⟨P, 9, none⟩ = some (.int .i64 x.rq.on) ∧ W.cell? ⟨P, 10, none⟩ = some (.int .i64 x.rq.om))) (by kernel_rfl) p0.out (fun hHeld => ?_)
  refine wpAnyH_take (i := 0) (oi := { dst := some 7, op := Go.Op.move (Go.Operand.tmp 1), type := 3, pos := "waiting.go:89", after := #[], guard := none }) (v := ?_) rfl (by kernel_rfl) (by kernel_rfl) (by kernel_rfl) (fun _ _ _ h => h) (Or.inl ⟨by rfl, ?_⟩) hHeld ?_
  rotate_left
  · intro W hSw
    (try dsimp only at hSw)
    go_simp
    (try with_reducible rfl)
  (try simp only [Act.put, List.setIfInBounds_toArray, List.set_cons_zero, List.set_cons_succ])
  refine wpAnyH_take (i := 1) (oi := { dst := some 8, op := Go.Op.move (Go.Operand.tmp 2), type := 3, pos := "waiting.go:89", after := #[], guard := none }) (v := ?_) rfl (by kernel_rfl) (by kernel_rfl) (by kernel_rfl) (fun _ _ _ h => h) (Or.inl ⟨by rfl, ?_⟩) hHeld ?_
  rotate_left
  · intro W hSw
    (try dsimp only at hSw)
    go_simp
    (try with_reducible rfl)
  (try simp only [Act.put, List.setIfInBounds_toArray, List.set_cons_zero, List.set_cons_succ])
  refine wpAnyH_take (i := 2) (oi := { dst := some 9, op := Go.Op.move (Go.Operand.tmp 0), type := 177, pos := "waiting.go:89", after := #[], guard := none }) (v := ?_) rfl (by kernel_rfl) (by kernel_rfl) (by kernel_rfl) (fun _ _ _ h => h) (Or.inl ⟨by rfl, ?_⟩) hHeld ?_
  rotate_left
  · intro W hSw
    (try dsimp only at hSw)
    go_simp
    (try with_reducible rfl)
  (try simp only [Act.put, List.setIfInBounds_toArray, List.set_cons_zero, List.set_cons_succ])
  refine wpAnyH_take (i := 3) (oi := { dst := some 10, op := Go.Op.nilCheck (Go.Operand.tmp 9), type := 0, pos := "waiting.go:89", after := #[{ on := 2, ground := Go.Ground.data }], guard := none }) (v := ?_) rfl (by kernel_rfl) (by kernel_rfl) (by kernel_rfl) (fun _ _ _ h => h) (Or.inl ⟨by rfl, ?_⟩) hHeld ?_
  rotate_left
  · intro W hSw
    (try dsimp only at hSw)
    go_simp
    (try with_reducible rfl)
  (try simp only [Act.put, List.setIfInBounds_toArray, List.set_cons_zero, List.set_cons_succ])
  refine wpAnyH_take (i := 4) (oi := { dst := some 11, op := Go.Op.fieldAddr 107 (Go.Operand.tmp 10) 0, type := 0, pos := "waiting.go:89", after := #[{ on := 3, ground := Go.Ground.data }], guard := none }) (v := ?_) rfl (by kernel_rfl) (by kernel_rfl) (by kernel_rfl) (fun _ _ _ h => h) (Or.inl ⟨by rfl, ?_⟩) hHeld ?_
  rotate_left
  · intro W hSw
    (try dsimp only at hSw)
    go_simp
    (try with_reducible rfl)
  (try simp only [Act.put, List.setIfInBounds_toArray, List.set_cons_zero, List.set_cons_succ])
  refine wpAnyH_take (i := 5) (oi := { dst := some 12, op := Go.Op.fieldAddr 104 (Go.Operand.tmp 11) 0, type := 0, pos := "waiting.go:89", after := #[{ on := 4, ground := Go.Ground.data }], guard := none }) (v := ?_) rfl (by kernel_rfl) (by kernel_rfl) (by kernel_rfl) (fun _ _ _ h => h) (Or.inl ⟨by rfl, ?_⟩) hHeld ?_
  rotate_left
  · intro W hSw
    (try dsimp only at hSw)
    go_simp
    (try with_reducible rfl)
  (try simp only [Act.put, List.setIfInBounds_toArray, List.set_cons_zero, List.set_cons_succ])
  refine wpAnyH_take (i := 6) (oi := { dst := some 13, op := Go.Op.load 3 (Go.Operand.tmp 12), type := 3, pos := "waiting.go:89", after := #[{ on := 5, ground := Go.Ground.data }], guard := none }) (v := ?_) rfl (by kernel_rfl) (by kernel_rfl) (by kernel_rfl) (fun _ _ _ h => h) (Or.inl ⟨by rfl, ?_⟩) hHeld ?_
  rotate_left
  · intro W hSw
    (try dsimp only at hSw)
    go_simp
    (try with_reducible rfl)
  (try simp only [Act.put, List.setIfInBounds_toArray, List.set_cons_zero, List.set_cons_succ])
  refine wpAnyH_take (i := 7) (oi := { dst := some 14, op := Go.Op.move (Go.Operand.tmp 0), type := 177, pos := "waiting.go:89", after := #[], guard := none }) (v := ?_) rfl (by kernel_rfl) (by kernel_rfl) (by kernel_rfl) (fun _ _ _ h => h) (Or.inl ⟨by rfl, ?_⟩) hHeld ?_
  rotate_left
  · intro W hSw
    (try dsimp only at hSw)
    go_simp
    (try with_reducible rfl)
  (try simp only [Act.put, List.setIfInBounds_toArray, List.set_cons_zero, List.set_cons_succ])
  refine wpAnyH_take (i := 8) (oi := { dst := some 15, op := Go.Op.nilCheck (Go.Operand.tmp 14), type := 0, pos := "waiting.go:89", after := #[{ on := 7, ground := Go.Ground.data }], guard := none }) (v := ?_) rfl (by kernel_rfl) (by kernel_rfl) (by kernel_rfl) (fun _ _ _ h => h) (Or.inl ⟨by rfl, ?_⟩) hHeld ?_
  rotate_left
  · intro W hSw
    (try dsimp only at hSw)
    go_simp
    (try with_reducible rfl)
  (try simp only [Act.put, List.setIfInBounds_toArray, List.set_cons_zero, List.set_cons_succ])
  refine wpAnyH_take (i := 9) (oi := { dst := some 16, op := Go.Op.fieldAddr 107 (Go.Operand.tmp 15) 0, type := 0, pos := "waiting.go:89", after := #[{ on := 8, ground := Go.Ground.data }], guard := none }) (v := ?_) rfl (by kernel_rfl) (by kernel_rfl) (by kernel_rfl) (fun _ _ _ h => h) (Or.inl ⟨by rfl, ?_⟩) hHeld ?_
  rotate_left
  · intro W hSw
    (try dsimp only at hSw)
    go_simp
    (try with_reducible rfl)
  (try simp only [Act.put, List.setIfInBounds_toArray, List.set_cons_zero, List.set_cons_succ])
  refine wpAnyH_take (i := 10) (oi := { dst := some 17, op := Go.Op.fieldAddr 104 (Go.Operand.tmp 16) 2, type := 0, pos := "waiting.go:89", after := #[{ on := 9, ground := Go.Ground.data }], guard := none }) (v := ?_) rfl (by kernel_rfl) (by kernel_rfl) (by kernel_rfl) (fun _ _ _ h => h) (Or.inl ⟨by rfl, ?_⟩) hHeld ?_
  rotate_left
  · intro W hSw
    (try dsimp only at hSw)
    go_simp
    (try with_reducible rfl)
  (try simp only [Act.put, List.setIfInBounds_toArray, List.set_cons_zero, List.set_cons_succ])
  refine wpAnyH_take (i := 11) (oi := { dst := some 18, op := Go.Op.load 42 (Go.Operand.tmp 17), type := 42, pos := "waiting.go:89", after := #[{ on := 10, ground := Go.Ground.data }], guard := none }) (v := ?_) rfl (by kernel_rfl) (by kernel_rfl) (by kernel_rfl) (fun _ _ _ h => h) (Or.inl ⟨by rfl, ?_⟩) hHeld ?_
  rotate_left
  · intro W hSw
    (try dsimp only at hSw)
    go_simp
    (try with_reducible rfl)
  (try simp only [Act.put, List.setIfInBounds_toArray, List.set_cons_zero, List.set_cons_succ])
  refine wpAnyH_take (i := 12) (oi := { dst := some 19, op := Go.Op.build 51 #[(0, Go.Operand.const (Go.Value.int Go.IntKind.i64 1)), (1, Go.Operand.tmp 7), (2, Go.Operand.tmp 8), (8, Go.Operand.tmp 13), (10, Go.Operand.tmp 18)], type := 51, pos := "waiting.go:89", after := #[{ on := 0, ground := Go.Ground.data }, { on := 1, ground := Go.Ground.data }, { on := 6, ground := Go.Ground.data }, { on := 11, ground := Go.Ground.data }], guard := none }) (v := .agg MM.toArray) rfl (by kernel_rfl) (by kernel_rfl) (by kernel_rfl) (fun _ _ _ h => h) (yieldsIf_build (by rfl) 51 _ rfl MM.toArray (by rw [hMM.out]; kernel_rfl)) hHeld ?_
  (try simp only [Act.put, List.setIfInBounds_toArray, List.set_cons_zero, List.set_cons_succ])
  refine wpAnyH_ready (rs := [13]) (by kernel_rfl) (by simp) ?_
  refine AllReadyH.cons (o := { dst := none, op := Go.Op.store 51 (Go.Operand.tmp 6) (Go.Operand.tmp 19), type := 0, pos := "waiting.go:89", after := #[{ on := 12, ground := Go.Ground.data }, { on := 0, ground := Go.Ground.phase }, { on := 1, ground := Go.Ground.phase }, { on := 2, ground := Go.Ground.phase }, { on := 3, ground := Go.Ground.phase }, { on := 4, ground := Go.Ground.phase }, { on := 5, ground := Go.Ground.phase }, { on := 6, ground := Go.Ground.phase }, { on := 7, ground := Go.Ground.phase }, { on := 8, ground := Go.Ground.phase }, { on := 9, ground := Go.Ground.phase }, { on := 10, ground := Go.Ground.phase }, { on := 11, ground := Go.Ground.phase }, { on := 12, ground := Go.Ground.phase }], guard := none }) rfl (fun K hK => ?_) AllReadyH.nil
  rw [if_pos (by rfl)]
  refine wp_store_row 51 _ _ rfl G MM.toArray rfl rfl 51 _ hg2.out I41.out Z41.out O41.out ?_
  refine hK.out _ _ p1.out (fun hHeld => ?_)
  clear hK K
  (try simp only [Act.put])
  refine wpAnyH_done (by kernel_rfl) ?_ _
  clear hHeld
  clear p0 p1 hg2
  generalize w1.drew.setRow G MM.toArray = w2 at A3 ⊢
  go_wp2
  refine bodyPost_ret (v := .agg MM.toArray) (results_cell_row (fn := Tryz.f78) rfl _ _ G 51 MM.toArray (0, 0) _ rfl A3.out.1.2.1 Tryz.underlying51 rfl I41.out) rfl ?_
  exact ⟨rfl, A3.out.into (by simp)⟩

set_option maxHeartbeats 1600000 in
set_option maxRecDepth 1000000 in
theorem msgQ {P : Nat} {x : Px} {b m n1 n2 : Int} {cs : List Comp} {w : World} (h : All (pxL P x b m n1 n2 ++ cs) w) (f t : Int) : Calls Tryz.prog 79 #[.pointer (some ⟨P, 13, none⟩), .int .i64 f, .int .i64 t] w fun e w' => e = .returned (.agg (asM f t x.least x.qu).cells.toArray) ∧ Below w.heap.size w w' := by
  obtain ⟨G, hG⟩ : ∃ G, Hid (G = w.heap.size) := ⟨_, hid rfl⟩
  have A1 : Hid (All (blkC G zM.cells 51 :: inC w :: []) (w.alloc (.cells zM.cells.toArray 51))) := hid (by rw [hG.out]; exact (All.came w).addBlk zM.cells 51)
  have SF : Hid (∀ W, Below w.heap.size w W → (fun W => W.cell? ⟨P, 13, none⟩ = some (.int .i64 x.qu.num) ∧ W.cell? ⟨P, 15, none⟩ = some (.int .i64 x.qu.ok) ∧ W.cell? ⟨P, 16, none⟩ = some (.string x.qu.onm) ∧ W.cell? ⟨P, 17, none⟩ = some (.string x.qu.otx) ∧ W.cell? ⟨P, 18, none⟩ = some (.int .i64 x.qu.on) ∧ W.cell? ⟨P, 19, none⟩ = some (.int .i64 x.qu.om) ∧ W.cell? ⟨P, 23, none⟩ = some (.int .i64 x.least)) W) := hid (fun W hW => ⟨cell_under hW (h.1.2.2 P (by simp [blkC])) (by rw [cell_at h.px]; rfl), cell_under hW (h.1.2.2 P (by simp [blkC])) (by rw [cell_at h.px]; rfl), cell_under hW (h.1.2.2 P (by simp [blkC])) (by rw [cell_at h.px]; rfl), cell_under hW (h.1.2.2 P (by simp [blkC])) (by rw [cell_at h.px]; rfl), cell_under hW (h.1.2.2 P (by simp [blkC])) (by rw [cell_at h.px]; rfl), cell_under hW (h.1.2.2 P (by simp [blkC])) (by rw [cell_at h.px]; rfl), cell_under hW (h.1.2.2 P (by simp [blkC])) (by rw [cell_at h.px]; rfl)⟩)
  have eZ : Hid (zM.cells.toArray = #[.int .i64 0, .int .i64 0, .int .i64 0, .int .i64 0, .int .i64 0, .int .i64 0, .int .i64 0, .int .i64 0, .int .i64 0, .bool false, .int .i64 0, .string ⟨#[]⟩, .string ⟨#[]⟩, .int .i64 0, .int .i64 0, .int .i64 0, .int .i64 0, .slice none 0 0, .slice none 0 0, .int .i64 0, .int .i64 0, .slice none 0 0, .slice none 0 0]) := hid rfl
  have I41 := hid (info41 (asM f t x.least x.qu))
  have O41 := hid (one41 (asM f t x.least x.qu))
  have Z41 : Hid (zM.cells.toArray.size = (asM f t x.least x.qu).cells.toArray.size) := hid rfl
  obtain ⟨MM, hMM⟩ : ∃ MM, Hid (MM = (asM f t x.least x.qu).cells) := ⟨_, hid rfl⟩
  rw [← hMM.out] at I41 O41 Z41 ⊢
  clear h
  go_enter Tryz.func79, Tryz.ntmps79
  go_upto_region 1 with fail
  rw [← eZ.out]
  simp only [← hG.out]
  generalize w.alloc (.cells zM.cells.toArray 51) = w1 at A1 ⊢
  have A2 := hid A1.out.drew
  have p0 := hid (SF.out _ (A2.out.into (by simp)))
  have A3 := hid (A2.out.setRow (vs' := MM))
  have hg2 : Hid (w1.drew.heap[G]? = some (.cells zM.cells.toArray 51 (0, 0))) := hid A2.out.1.2.1
  have p1 := hid (SF.out _ (A3.out.into (by simp)))
  refine wp_region_held_drew (S := (fun W => W.cell? ⟨P, 13, none⟩ = some (.int .i64 x.qu.num) ∧ W.cell? ⟨P, 15, none⟩ = some (.int .i64 x.qu.ok) ∧ W.cell? ⟨P, 16, none⟩ = some (.string x.qu.onm) ∧ W.cell? ⟨P, 17, none⟩ = some (.string x.qu.otx) ∧ W.cell? ⟨P, 18, none⟩ = some (.int .i64 x.qu.on) ∧ W.cell? ⟨P, 19, none⟩ = some (.int .i64 x.qu.om) ∧ W.cell? ⟨P, 23, none⟩ = some (.int .i64 x.least))) (by kernel_rfl) p0.out (fun hHeld => ?_)
  refine wpAnyH_take (i := 0) (oi := { dst := some 7, op := Go.Op.move (Go.Operand.tmp 1), type := 3, pos := "waiting.go:93", after := #[], guard := none }) (v := ?_) rfl (by kernel_rfl) (by kernel_rfl) (by kernel_rfl) (fun _ _ _ h => h) (Or.inl ⟨by rfl, ?_⟩) hHeld ?_
  rotate_left
  · intro W hSw
    (try dsimp only at hSw)
    go_simp
    (try with_reducible rfl)
  (try simp only [Act.put, List.setIfInBounds_toArray, List.set_cons_zero, List.set_cons_succ])
  refine wpAnyH_take (i := 1) (oi := { dst := some 8, op := Go.Op.move (Go.Operand.tmp 2), type := 3, pos := "waiting.go:93", after := #[], guard := none }) (v := ?_) rfl (by kernel_rfl) (by kernel_rfl) (by kernel_rfl) (fun _ _ _ h => h) (Or.inl ⟨by rfl, ?_⟩) hHeld ?_
  rotate_left
  · intro W hSw
    (try dsimp only at hSw)
    go_simp
    (try with_reducible rfl)
  (try simp only [Act.put, List.setIfInBounds_toArray, List.set_cons_zero, List.set_cons_succ])
  refine wpAnyH_take (i := 2) (oi := { dst := some 9, op := Go.Op.move (Go.Operand.tmp 0), type := 178, pos := "waiting.go:93", after := #[], guard := none }) (v := ?_) rfl (by kernel_rfl) (by kernel_rfl) (by kernel_rfl) (fun _ _ _ h => h) (Or.inl ⟨by rfl, ?_⟩) hHeld ?_
  rotate_left
  · intro W hSw
    (try dsimp only at hSw)
    go_simp
    (try with_reducible rfl)
  (try simp only [Act.put, List.setIfInBounds_toArray, List.set_cons_zero, List.set_cons_succ])
  refine wpAnyH_take (i := 3) (oi := { dst := some 10, op := Go.Op.nilCheck (Go.Operand.tmp 9), type := 0, pos := "waiting.go:93", after := #[{ on := 2, ground := Go.Ground.data }], guard := none }) (v := ?_) rfl (by kernel_rfl) (by kernel_rfl) (by kernel_rfl) (fun _ _ _ h => h) (Or.inl ⟨by rfl, ?_⟩) hHeld ?_
  rotate_left
  · intro W hSw
    (try dsimp only at hSw)
    go_simp
    (try with_reducible rfl)
  (try simp only [Act.put, List.setIfInBounds_toArray, List.set_cons_zero, List.set_cons_succ])
  refine wpAnyH_take (i := 4) (oi := { dst := some 11, op := Go.Op.fieldAddr 109 (Go.Operand.tmp 10) 0, type := 0, pos := "waiting.go:93", after := #[{ on := 3, ground := Go.Ground.data }], guard := none }) (v := ?_) rfl (by kernel_rfl) (by kernel_rfl) (by kernel_rfl) (fun _ _ _ h => h) (Or.inl ⟨by rfl, ?_⟩) hHeld ?_
  rotate_left
  · intro W hSw
    (try dsimp only at hSw)
    go_simp
    (try with_reducible rfl)
  (try simp only [Act.put, List.setIfInBounds_toArray, List.set_cons_zero, List.set_cons_succ])
  refine wpAnyH_take (i := 5) (oi := { dst := some 12, op := Go.Op.fieldAddr 104 (Go.Operand.tmp 11) 0, type := 0, pos := "waiting.go:93", after := #[{ on := 4, ground := Go.Ground.data }], guard := none }) (v := ?_) rfl (by kernel_rfl) (by kernel_rfl) (by kernel_rfl) (fun _ _ _ h => h) (Or.inl ⟨by rfl, ?_⟩) hHeld ?_
  rotate_left
  · intro W hSw
    (try dsimp only at hSw)
    go_simp
    (try with_reducible rfl)
  (try simp only [Act.put, List.setIfInBounds_toArray, List.set_cons_zero, List.set_cons_succ])
  refine wpAnyH_take (i := 6) (oi := { dst := some 13, op := Go.Op.load 3 (Go.Operand.tmp 12), type := 3, pos := "waiting.go:93", after := #[{ on := 5, ground := Go.Ground.data }], guard := none }) (v := ?_) rfl (by kernel_rfl) (by kernel_rfl) (by kernel_rfl) (fun _ _ _ h => h) (Or.inl ⟨by rfl, ?_⟩) hHeld ?_
  rotate_left
  · intro W hSw
    (try dsimp only at hSw)
    go_simp
    (try with_reducible rfl)
  (try simp only [Act.put, List.setIfInBounds_toArray, List.set_cons_zero, List.set_cons_succ])
  refine wpAnyH_take (i := 7) (oi := { dst := some 14, op := Go.Op.move (Go.Operand.tmp 0), type := 178, pos := "waiting.go:93", after := #[], guard := none }) (v := ?_) rfl (by kernel_rfl) (by kernel_rfl) (by kernel_rfl) (fun _ _ _ h => h) (Or.inl ⟨by rfl, ?_⟩) hHeld ?_
  rotate_left
  · intro W hSw
    (try dsimp only at hSw)
    go_simp
    (try with_reducible rfl)
  (try simp only [Act.put, List.setIfInBounds_toArray, List.set_cons_zero, List.set_cons_succ])
  refine wpAnyH_take (i := 8) (oi := { dst := some 15, op := Go.Op.nilCheck (Go.Operand.tmp 14), type := 0, pos := "waiting.go:93", after := #[{ on := 7, ground := Go.Ground.data }], guard := none }) (v := ?_) rfl (by kernel_rfl) (by kernel_rfl) (by kernel_rfl) (fun _ _ _ h => h) (Or.inl ⟨by rfl, ?_⟩) hHeld ?_
  rotate_left
  · intro W hSw
    (try dsimp only at hSw)
    go_simp
    (try with_reducible rfl)
  (try simp only [Act.put, List.setIfInBounds_toArray, List.set_cons_zero, List.set_cons_succ])
  refine wpAnyH_take (i := 9) (oi := { dst := some 16, op := Go.Op.fieldAddr 109 (Go.Operand.tmp 15) 2, type := 0, pos := "waiting.go:93", after := #[{ on := 8, ground := Go.Ground.data }], guard := none }) (v := ?_) rfl (by kernel_rfl) (by kernel_rfl) (by kernel_rfl) (fun _ _ _ h => h) (Or.inl ⟨by rfl, ?_⟩) hHeld ?_
  rotate_left
  · intro W hSw
    (try dsimp only at hSw)
    go_simp
    (try with_reducible rfl)
  (try simp only [Act.put, List.setIfInBounds_toArray, List.set_cons_zero, List.set_cons_succ])
  refine wpAnyH_take (i := 10) (oi := { dst := some 17, op := Go.Op.load 3 (Go.Operand.tmp 16), type := 3, pos := "waiting.go:93", after := #[{ on := 9, ground := Go.Ground.data }], guard := none }) (v := ?_) rfl (by kernel_rfl) (by kernel_rfl) (by kernel_rfl) (fun _ _ _ h => h) (Or.inl ⟨by rfl, ?_⟩) hHeld ?_
  rotate_left
  · intro W hSw
    (try dsimp only at hSw)
    go_simp
    (try with_reducible rfl)
  (try simp only [Act.put, List.setIfInBounds_toArray, List.set_cons_zero, List.set_cons_succ])
  refine wpAnyH_take (i := 11) (oi := { dst := some 18, op := Go.Op.move (Go.Operand.tmp 0), type := 178, pos := "waiting.go:93", after := #[], guard := none }) (v := ?_) rfl (by kernel_rfl) (by kernel_rfl) (by kernel_rfl) (fun _ _ _ h => h) (Or.inl ⟨by rfl, ?_⟩) hHeld ?_
  rotate_left
  · intro W hSw
    (try dsimp only at hSw)
    go_simp
    (try with_reducible rfl)
  (try simp only [Act.put, List.setIfInBounds_toArray, List.set_cons_zero, List.set_cons_succ])
  refine wpAnyH_take (i := 12) (oi := { dst := some 19, op := Go.Op.nilCheck (Go.Operand.tmp 18), type := 0, pos := "waiting.go:93", after := #[{ on := 11, ground := Go.Ground.data }], guard := none }) (v := ?_) rfl (by kernel_rfl) (by kernel_rfl) (by kernel_rfl) (fun _ _ _ h => h) (Or.inl ⟨by rfl, ?_⟩) hHeld ?_
  rotate_left
  · intro W hSw
    (try dsimp only at hSw)
    go_simp
    (try with_reducible rfl)
  (try simp only [Act.put, List.setIfInBounds_toArray, List.set_cons_zero, List.set_cons_succ])
  refine wpAnyH_take (i := 13) (oi := { dst := some 20, op := Go.Op.fieldAddr 109 (Go.Operand.tmp 19) 0, type := 0, pos := "waiting.go:93", after := #[{ on := 12, ground := Go.Ground.data }], guard := none }) (v := ?_) rfl (by kernel_rfl) (by kernel_rfl) (by kernel_rfl) (fun _ _ _ h => h) (Or.inl ⟨by rfl, ?_⟩) hHeld ?_
  rotate_left
  · intro W hSw
    (try dsimp only at hSw)
    go_simp
    (try with_reducible rfl)
  (try simp only [Act.put, List.setIfInBounds_toArray, List.set_cons_zero, List.set_cons_succ])
  refine wpAnyH_take (i := 14) (oi := { dst := some 21, op := Go.Op.fieldAddr 104 (Go.Operand.tmp 20) 2, type := 0, pos := "waiting.go:93", after := #[{ on := 13, ground := Go.Ground.data }], guard := none }) (v := ?_) rfl (by kernel_rfl) (by kernel_rfl) (by kernel_rfl) (fun _ _ _ h => h) (Or.inl ⟨by rfl, ?_⟩) hHeld ?_
  rotate_left
  · intro W hSw
    (try dsimp only at hSw)
    go_simp
    (try with_reducible rfl)
  (try simp only [Act.put, List.setIfInBounds_toArray, List.set_cons_zero, List.set_cons_succ])
  refine wpAnyH_take (i := 15) (oi := { dst := some 22, op := Go.Op.load 42 (Go.Operand.tmp 21), type := 42, pos := "waiting.go:93", after := #[{ on := 14, ground := Go.Ground.data }], guard := none }) (v := ?_) rfl (by kernel_rfl) (by kernel_rfl) (by kernel_rfl) (fun _ _ _ h => h) (Or.inl ⟨by rfl, ?_⟩) hHeld ?_
  rotate_left
  · intro W hSw
    (try dsimp only at hSw)
    go_simp
    (try with_reducible rfl)
  (try simp only [Act.put, List.setIfInBounds_toArray, List.set_cons_zero, List.set_cons_succ])
  refine wpAnyH_take (i := 16) (oi := { dst := some 23, op := Go.Op.build 51 #[(0, Go.Operand.const (Go.Value.int Go.IntKind.i64 14)), (1, Go.Operand.tmp 7), (2, Go.Operand.tmp 8), (8, Go.Operand.tmp 13), (4, Go.Operand.tmp 17), (10, Go.Operand.tmp 22)], type := 51, pos := "waiting.go:93", after := #[{ on := 0, ground := Go.Ground.data }, { on := 1, ground := Go.Ground.data }, { on := 6, ground := Go.Ground.data }, { on := 10, ground := Go.Ground.data }, { on := 15, ground := Go.Ground.data }], guard := none }) (v := .agg MM.toArray) rfl (by kernel_rfl) (by kernel_rfl) (by kernel_rfl) (fun _ _ _ h => h) (yieldsIf_build (by rfl) 51 _ rfl MM.toArray (by rw [hMM.out]; kernel_rfl)) hHeld ?_
  (try simp only [Act.put, List.setIfInBounds_toArray, List.set_cons_zero, List.set_cons_succ])
  refine wpAnyH_ready (rs := [17]) (by kernel_rfl) (by simp) ?_
  refine AllReadyH.cons (o := { dst := none, op := Go.Op.store 51 (Go.Operand.tmp 6) (Go.Operand.tmp 23), type := 0, pos := "waiting.go:93", after := #[{ on := 16, ground := Go.Ground.data }, { on := 0, ground := Go.Ground.phase }, { on := 1, ground := Go.Ground.phase }, { on := 2, ground := Go.Ground.phase }, { on := 3, ground := Go.Ground.phase }, { on := 4, ground := Go.Ground.phase }, { on := 5, ground := Go.Ground.phase }, { on := 6, ground := Go.Ground.phase }, { on := 7, ground := Go.Ground.phase }, { on := 8, ground := Go.Ground.phase }, { on := 9, ground := Go.Ground.phase }, { on := 10, ground := Go.Ground.phase }, { on := 11, ground := Go.Ground.phase }, { on := 12, ground := Go.Ground.phase }, { on := 13, ground := Go.Ground.phase }, { on := 14, ground := Go.Ground.phase }, { on := 15, ground := Go.Ground.phase }, { on := 16, ground := Go.Ground.phase }], guard := none }) rfl (fun K hK => ?_) AllReadyH.nil
  rw [if_pos (by rfl)]
  refine wp_store_row 51 _ _ rfl G MM.toArray rfl rfl 51 _ hg2.out I41.out Z41.out O41.out ?_
  refine hK.out _ _ p1.out (fun hHeld => ?_)
  clear hK K
  (try simp only [Act.put])
  refine wpAnyH_done (by kernel_rfl) ?_ _
  clear hHeld
  clear p0 p1 hg2
  generalize w1.drew.setRow G MM.toArray = w2 at A3 ⊢
  go_wp2
  refine bodyPost_ret (v := .agg MM.toArray) (results_cell_row (fn := Tryz.f79) rfl _ _ G 51 MM.toArray (0, 0) _ rfl A3.out.1.2.1 Tryz.underlying51 rfl I41.out) rfl ?_
  exact ⟨rfl, A3.out.into (by simp)⟩
end Go.Proofs.YtdhkdniddjnigaaGreatDoor

namespace Go.Proofs.YtdhkdniddjnigaaGreatDoor
open Go.RowKit
set_option linter.unusedVariables false

theorem opCells {W : World} {H : Nat} {k : Int} {nm tx : ByteArray} {a d : Int} (h : W.heap[H]? = some (.cells [.int .i64 k, .string nm, .string tx, .int .i64 a, .int .i64 d].toArray 42 (0, 0))) : W.cell? ⟨H, 0, none⟩ = some (.int .i64 k) ∧ W.cell? ⟨H, 1, none⟩ = some (.string nm) ∧ W.cell? ⟨H, 2, none⟩ = some (.string tx) ∧ W.cell? ⟨H, 3, none⟩ = some (.int .i64 a) ∧ W.cell? ⟨H, 4, none⟩ = some (.int .i64 d) :=
  ⟨by rw [cell_at h]; rfl, by rw [cell_at h]; rfl, by rw [cell_at h]; rfl, by rw [cell_at h]; rfl, by rw [cell_at h]; rfl⟩
set_option maxRecDepth 1000000 in
/-- Submit of an op that may not be. -/
theorem submit_bad {P : Nat} {x : Px} {b m n1 n2 : Int} {cs : List Comp} {w w0 : World} (h : All (pxL P x b m n1 n2 ++ cs) w) (hT : Tab w0) (hin : inC w0 ∈ cs) (k : Int) (nm tx : ByteArray) (a d : Int) (hc : chkA k nm.size tx.size a d ≠ 0) : Calls Tryz.prog 191 #[.pointer (some ⟨P, 0, none⟩), opV k nm tx a d] w fun e w' => e = .returned (.tuple #[.slice none 0 0, .int .i64 (chkA k nm.size tx.size a d)]) ∧ All (pxL P x b m n1 n2 ++ cs) w' := by
  have A1 := hid (h.alloc (.cells #[.int .i64 k, .string nm, .string tx, .int .i64 a, .int .i64 d] 42))
  have C := hid (check_any (hT.below (A1.out.into (List.mem_append_right _ hin))) k nm tx a d)
  generalize chkA k nm.size tx.size a d = E at hc C ⊢
  have e1 : (E != 0) = true := by simpa using hc
  clear h hT hin hc
  go_enter Tryz.func191, Tryz.ntmps191
  go_wp2_with fail
  refine C.out.mono ?_
  rintro e w1 ⟨rfl, BB⟩
  have A2 := hid (A1.out.later BB)
  clear BB C A1
  go_wp2
  go_ret2
  exact ⟨rfl, A2.out⟩
set_option maxHeartbeats 1600000 in
set_option maxRecDepth 1000000 in
/-- Submit where the request can't begin. -/
theorem submit_no {P : Nat} {x : Px} {b m n1 n2 : Int} {cs : List Comp} {w w0 : World} (h : All (pxL P x b m n1 n2 ++ cs) w) (hT : Tab w0) (hin : inC w0 ∈ cs) (k : Int) (nm tx : ByteArray) (a d : Int) (hc : chkA k nm.size tx.size a d = 0) {E : Int} (hE : E ≠ 0) (hC : ∀ W cs', All (pxL P x b m n1 n2 ++ cs') W → Calls Tryz.prog 212 #[.pointer (some ⟨P, 4, none⟩), opV k nm tx a d] W fun e w' => e = .returned (.int .i64 E) ∧ All (pxL P x b m n1 n2 ++ cs') w') : Calls Tryz.prog 191 #[.pointer (some ⟨P, 0, none⟩), opV k nm tx a d] w fun e w' => e = .returned (.tuple #[.slice none 0 0, .int .i64 E]) ∧ All (pxL P x b m n1 n2 ++ cs) w' := by
  obtain ⟨H, hH⟩ : ∃ H, Hid (H = w.heap.size) := ⟨_, hid rfl⟩
  have A1 := hid (h.addBlk [.int .i64 k, .string nm, .string tx, .int .i64 a, .int .i64 d] 42)
  rw [← hH.out] at A1
  have A1 := hid (A1.out.perm (List.perm_middle (l₁ := pxL P x b m n1 n2)).symm)
  have C : Hid (Calls Tryz.prog 169 #[opV k nm tx a d] (w.alloc (.cells #[.int .i64 k, .string nm, .string tx, .int .i64 a, .int .i64 d] 42)) fun e w' => e = .returned (.int .i64 0) ∧ Below (w.alloc (.cells #[.int .i64 k, .string nm, .string tx, .int .i64 a, .int .i64 d] 42)).heap.size (w.alloc (.cells #[.int .i64 k, .string nm, .string tx, .int .i64 a, .int .i64 d] 42)) w') := hid (by
    have := check_any (hT.below (A1.out.into (List.mem_append_right _ (List.mem_cons_of_mem _ hin)))) k nm tx a d
    rw [hc] at this
    exact this)
  have HC := hid hC
  have e1 : (E != 0) = true := by simpa using hE
  clear h hT hin hc hC hE
  go_enter Tryz.func191, Tryz.ntmps191
  go_wp2_with fail
  refine C.out.mono ?_
  rintro e w1 ⟨rfl, BB⟩
  have A2 : Hid (All (pxL P x b m n1 n2 ++ (blkC H [.int .i64 k, .string nm, .string tx, .int .i64 a, .int .i64 d] 42 :: cs)) w1) := hid (A1.out.later BB)
  simp only [← hH.out]
  clear BB C A1
  have SF : Hid (∀ W, All (pxL P x b m n1 n2 ++ (blkC H [.int .i64 k, .string nm, .string tx, .int .i64 a, .int .i64 d] 42 :: cs)) W → W.cell? ⟨H, 0, none⟩ = some (.int .i64 k) ∧ W.cell? ⟨H, 1, none⟩ = some (.string nm) ∧ W.cell? ⟨H, 2, none⟩ = some (.string tx) ∧ W.cell? ⟨H, 3, none⟩ = some (.int .i64 a) ∧ W.cell? ⟨H, 4, none⟩ = some (.int .i64 d)) := hid (fun W hW => opCells (hW.blk (by simp)))
  go_upto_region 4 with fail
  have A3 := hid A2.out.drew
  have p0 := hid (SF.out _ A3.out)
  go_region_held3 (fun W => W.cell? ⟨H, 0, none⟩ = some (.int .i64 k) ∧ W.cell? ⟨H, 1, none⟩ = some (.string nm) ∧ W.cell? ⟨H, 2, none⟩ = some (.string tx) ∧ W.cell? ⟨H, 3, none⟩ = some (.int .i64 a) ∧ W.cell? ⟨H, 4, none⟩ = some (.int .i64 d)) (first | with_reducible exact p0.out | with_reducible exact p1.out)
    (first
      | (go_at_call 212; refine (HC.out _ _ A3.out).mono ?_; rintro e w2 ⟨rfl, hw2⟩; have A4 := hid hw2; have p1 := hid (SF.out _ A4.out); clear hw2))
  clear p0 p1 A3 A2
  go_wp2
  go_ret2
  exact ⟨rfl, (A4.out.perm (List.perm_middle (l₁ := pxL P x b m n1 n2))).tail⟩
end Go.Proofs.YtdhkdniddjnigaaGreatDoor

namespace Go.Proofs.YtdhkdniddjnigaaGreatDoor
open Go.RowKit
set_option linter.unusedVariables false

theorem Tryz.inf41 : (Tryz.prog.info? 51).map (fun i => (i.zero, i.size, i.bytes)) = some (some (.agg zM.cells.toArray), 23, 264) := by kernel_rfl
theorem fill_of {F : Nat → Option (Nat × Nat)} {Z : Array Value} {L L' : List (Nat × Value)} {C : Array Value} (h : Instr.fill F Z L = some C) (e : L' = L) : Instr.fill F Z L' = some C := e ▸ h
/-- A list of one message, laid. -/
structure Bs (ie : TypeInfo) (z : Value) (C : Array Value) : Prop where
  i : Tryz.prog.info? 51 = some ie
  o : ie.zero = some z
  s : ¬ 1 * ie.size > 2 ^ 24
  p : ¬ 1 * ie.size = 0
  f : Instr.fill (fun i => some (i * ie.size, ie.size)) ((Array.range (1 * ie.size)).map (z.cells[· % z.cells.size]!)) [(0, .agg C)] = some C
theorem und49 : Tryz.prog.underlying 59 = some (.slice 51) := by kernel_rfl
theorem bs41 (m : Ms) : ∃ ie z, Bs ie z m.cells.toArray := by
  obtain ⟨i1, hi1, hz0, hz1, hz2⟩ := info_parts Tryz.inf41
  refine ⟨i1, _, hi1, hz0, by rw [hz1]; decide, by rw [hz1]; decide, ?_⟩
  rw [hz1]
  kernel_rfl
/-- The state behind a request that began. -/
def Px.sub (x : Px) (k : Int) (nm tx : ByteArray) (a d n1 : Int) : Px := { x with rq := { x.rq with num := x.rq.num + 1, wts := true, ok := k, onm := nm, otx := tx, on := a, om := d, left := n1 } }

set_option maxHeartbeats 1600000 in
set_option maxRecDepth 1000000 in
/-- Submit of an op that may be, where nothing waits. -/
theorem submit_ok {P : Nat} {x : Px} {b m n1 n2 : Int} {cs : List Comp} {w w0 : World} (h : All (pxL P x b m n1 n2 ++ cs) w) (hT : Tab w0) (hin : inC w0 ∈ cs) (k : Int) (nm tx : ByteArray) (a d : Int) (hc : chkA k nm.size tx.size a d = 0) (hw : x.rq.wts = false) (hn : 0 ≤ x.rq.num) (hn2 : x.rq.num < 1099511627776) (h1 : 1 ≤ n1) (h2 : n1 ≤ m) (h3 : m ≤ 1024) (hN : x.n = 3 ∨ x.n = 5 ∨ x.n = 7) (hv : 0 ≤ x.view) :
    Calls Tryz.prog 191 #[.pointer (some ⟨P, 0, none⟩), opV k nm tx a d] w fun e w' => ∃ G, e = .returned (.tuple #[.slice (some ⟨G, 0, none⟩) 1 1, .int .i64 0]) ∧ All (blkC G (rqM x.id (x.view.tmod x.n) (x.sub k nm tx a d n1).rq).cells 51 :: (pxL P (x.sub k nm tx a d n1) b m (min (2 * n1) m) n2 ++ cs)) w' := by
  obtain ⟨H, hH⟩ : ∃ H, Hid (H = w.heap.size) := ⟨_, hid rfl⟩
  have A1 := hid (h.addBlk [.int .i64 k, .string nm, .string tx, .int .i64 a, .int .i64 d] 42)
  rw [← hH.out] at A1
  have A1 := hid (A1.out.perm (List.perm_middle (l₁ := pxL P x b m n1 n2)).symm)
  have C : Hid (Calls Tryz.prog 169 #[opV k nm tx a d] (w.alloc (.cells #[.int .i64 k, .string nm, .string tx, .int .i64 a, .int .i64 d] 42)) fun e w' => e = .returned (.int .i64 0) ∧ Below (w.alloc (.cells #[.int .i64 k, .string nm, .string tx, .int .i64 a, .int .i64 d] 42)).heap.size (w.alloc (.cells #[.int .i64 k, .string nm, .string tx, .int .i64 a, .int .i64 d] 42)) w') := hid (by
    have := check_any (hT.below (A1.out.into (List.mem_append_right _ (List.mem_cons_of_mem _ hin)))) k nm tx a d
    rw [hc] at this
    exact this)
  have HC : Hid (∀ W cs', All (pxL P x b m n1 n2 ++ cs') W → Calls Tryz.prog 212 #[.pointer (some ⟨P, 4, none⟩), opV k nm tx a d] W fun e w' => e = .returned (.int .i64 0) ∧ All (pxL P (x.sub k nm tx a d n1) b m (min (2 * n1) m) n2 ++ cs') w') := hid (fun W cs' hW => begR_ok hW hw hn hn2 h1 h2 h3 k nm tx a d)
  have C26 : Hid (∀ W : World, Calls Tryz.prog 213 #[.int .i64 x.n, .int .i64 x.view] W fun e w' => e = .returned (.int .i64 (x.view.tmod x.n)) ∧ w' = W) := hid (fun W => primary_any x.n x.view hN hv)
  obtain ⟨to', hto⟩ : ∃ t, Hid (t = x.view.tmod x.n) := ⟨_, hid rfl⟩
  rw [← hto.out] at C26 ⊢
  have C25 : Hid (∀ W, All (pxL P (x.sub k nm tx a d n1) b m (min (2 * n1) m) n2 ++ (blkC H [.int .i64 k, .string nm, .string tx, .int .i64 a, .int .i64 d] 42 :: cs)) W → Calls Tryz.prog 78 #[.pointer (some ⟨P, 4, none⟩), .int .i64 x.id, .int .i64 to'] W fun e w' => e = .returned (.agg (rqM x.id to' (x.sub k nm tx a d n1).rq).cells.toArray) ∧ Below W.heap.size W w') := hid (fun W hW => msgR hW x.id to')
  obtain ⟨ie, z, bs⟩ := bs41 (rqM x.id to' (x.sub k nm tx a d n1).rq)
  have BS := hid bs
  obtain ⟨MM, hMM⟩ : ∃ MM, Hid (MM = (rqM x.id to' (x.sub k nm tx a d n1).rq).cells) := ⟨_, hid rfl⟩
  rw [← hMM.out] at BS C25 ⊢
  have SG : Hid (∀ W cs', All (pxL P (x.sub k nm tx a d n1) b m (min (2 * n1) m) n2 ++ cs') W → (fun W => W.cell? ⟨P, 0, none⟩ = some (.int .i64 x.n) ∧ W.cell? ⟨P, 1, none⟩ = some (.int .i64 x.id) ∧ W.cell? ⟨P, 2, none⟩ = some (.int .i64 x.view)) W) := hid (fun W cs' hW => ⟨by rw [cell_at hW.px]; rfl, by rw [cell_at hW.px]; rfl, by rw [cell_at hW.px]; rfl⟩)
  have SG : Hid (∀ W, All (pxL P (x.sub k nm tx a d n1) b m (min (2 * n1) m) n2 ++ (blkC H [.int .i64 k, .string nm, .string tx, .int .i64 a, .int .i64 d] 42 :: cs)) W → (fun W => W.cell? ⟨P, 0, none⟩ = some (.int .i64 x.n) ∧ W.cell? ⟨P, 1, none⟩ = some (.int .i64 x.id) ∧ W.cell? ⟨P, 2, none⟩ = some (.int .i64 x.view)) W) := hid (fun W hW => SG.out W _ hW)
  clear h hT hin hc hw hn hn2 h1 h2 h3 hN hv bs
  go_enter Tryz.func191, Tryz.ntmps191
  go_wp2_with fail
  refine C.out.mono ?_
  rintro e w1 ⟨rfl, BB⟩
  have A2 : Hid (All (pxL P x b m n1 n2 ++ (blkC H [.int .i64 k, .string nm, .string tx, .int .i64 a, .int .i64 d] 42 :: cs)) w1) := hid (A1.out.later BB)
  simp only [← hH.out]
  clear BB C A1
  have SF : Hid (∀ W y p q, All (pxL P y b m p q ++ (blkC H [.int .i64 k, .string nm, .string tx, .int .i64 a, .int .i64 d] 42 :: cs)) W → W.cell? ⟨H, 0, none⟩ = some (.int .i64 k) ∧ W.cell? ⟨H, 1, none⟩ = some (.string nm) ∧ W.cell? ⟨H, 2, none⟩ = some (.string tx) ∧ W.cell? ⟨H, 3, none⟩ = some (.int .i64 a) ∧ W.cell? ⟨H, 4, none⟩ = some (.int .i64 d)) := hid (fun W y p q hW => opCells (hW.blk (by simp)))
  go_upto_region 4 with fail
  have A3 := hid A2.out.drew
  have p0 := hid (SF.out _ _ _ _ A3.out)
  go_region_held3 (fun W => W.cell? ⟨H, 0, none⟩ = some (.int .i64 k) ∧ W.cell? ⟨H, 1, none⟩ = some (.string nm) ∧ W.cell? ⟨H, 2, none⟩ = some (.string tx) ∧ W.cell? ⟨H, 3, none⟩ = some (.int .i64 a) ∧ W.cell? ⟨H, 4, none⟩ = some (.int .i64 d)) (first | with_reducible exact p0.out | with_reducible exact p1.out)
    (first
      | (go_at_call 212; refine (HC.out _ _ A3.out).mono ?_; rintro e w2 ⟨rfl, hw2⟩; have A4 := hid hw2; have p1 := hid (SF.out _ _ _ _ A4.out); clear hw2))
  clear p0 p1 A3 A2 SF HC
  go_upto_region 7 with fail
  have A4 := hid A4.out.drew
  have p0 := hid (SG.out _ A4.out)
  refine wp_region_held_drew (S := (fun W => W.cell? ⟨P, 0, none⟩ = some (.int .i64 x.n) ∧ W.cell? ⟨P, 1, none⟩ = some (.int .i64 x.id) ∧ W.cell? ⟨P, 2, none⟩ = some (.int .i64 x.view))) (by kernel_rfl) p0.out (fun hHeld => ?_)
  refine wpAnyH_take (i := 0) (oi := { dst := some 22, op := Go.Op.move (Go.Operand.tmp 0), type := 70, pos := "proxy.go:41", after := #[], guard := none }) (v := ?_) rfl (by kernel_rfl) (by kernel_rfl) (by kernel_rfl) (fun _ _ _ h => h) (Or.inl ⟨by rfl, ?_⟩) hHeld ?_
  rotate_left
  · intro W hSw
    (try dsimp only at hSw)
    go_simp
    (try with_reducible rfl)
  (try simp only [Act.put, List.setIfInBounds_toArray, List.set_cons_zero, List.set_cons_succ])
  refine wpAnyH_take (i := 1) (oi := { dst := some 23, op := Go.Op.nilCheck (Go.Operand.tmp 22), type := 0, pos := "proxy.go:41", after := #[{ on := 0, ground := Go.Ground.data }], guard := none }) (v := ?_) rfl (by kernel_rfl) (by kernel_rfl) (by kernel_rfl) (fun _ _ _ h => h) (Or.inl ⟨by rfl, ?_⟩) hHeld ?_
  rotate_left
  · intro W hSw
    (try dsimp only at hSw)
    go_simp
    (try with_reducible rfl)
  (try simp only [Act.put, List.setIfInBounds_toArray, List.set_cons_zero, List.set_cons_succ])
  refine wpAnyH_take (i := 2) (oi := { dst := some 24, op := Go.Op.fieldAddr 111 (Go.Operand.tmp 23) 4, type := 0, pos := "proxy.go:41", after := #[{ on := 1, ground := Go.Ground.data }], guard := none }) (v := ?_) rfl (by kernel_rfl) (by kernel_rfl) (by kernel_rfl) (fun _ _ _ h => h) (Or.inl ⟨by rfl, ?_⟩) hHeld ?_
  rotate_left
  · intro W hSw
    (try dsimp only at hSw)
    go_simp
    (try with_reducible rfl)
  (try simp only [Act.put, List.setIfInBounds_toArray, List.set_cons_zero, List.set_cons_succ])
  refine wpAnyH_take (i := 3) (oi := { dst := some 25, op := Go.Op.move (Go.Operand.tmp 0), type := 70, pos := "proxy.go:41", after := #[], guard := none }) (v := ?_) rfl (by kernel_rfl) (by kernel_rfl) (by kernel_rfl) (fun _ _ _ h => h) (Or.inl ⟨by rfl, ?_⟩) hHeld ?_
  rotate_left
  · intro W hSw
    (try dsimp only at hSw)
    go_simp
    (try with_reducible rfl)
  (try simp only [Act.put, List.setIfInBounds_toArray, List.set_cons_zero, List.set_cons_succ])
  refine wpAnyH_take (i := 4) (oi := { dst := some 26, op := Go.Op.nilCheck (Go.Operand.tmp 25), type := 0, pos := "proxy.go:41", after := #[{ on := 3, ground := Go.Ground.data }], guard := none }) (v := ?_) rfl (by kernel_rfl) (by kernel_rfl) (by kernel_rfl) (fun _ _ _ h => h) (Or.inl ⟨by rfl, ?_⟩) hHeld ?_
  rotate_left
  · intro W hSw
    (try dsimp only at hSw)
    go_simp
    (try with_reducible rfl)
  (try simp only [Act.put, List.setIfInBounds_toArray, List.set_cons_zero, List.set_cons_succ])
  refine wpAnyH_take (i := 5) (oi := { dst := some 27, op := Go.Op.fieldAddr 111 (Go.Operand.tmp 26) 1, type := 0, pos := "proxy.go:41", after := #[{ on := 4, ground := Go.Ground.data }], guard := none }) (v := ?_) rfl (by kernel_rfl) (by kernel_rfl) (by kernel_rfl) (fun _ _ _ h => h) (Or.inl ⟨by rfl, ?_⟩) hHeld ?_
  rotate_left
  · intro W hSw
    (try dsimp only at hSw)
    go_simp
    (try with_reducible rfl)
  (try simp only [Act.put, List.setIfInBounds_toArray, List.set_cons_zero, List.set_cons_succ])
  refine wpAnyH_take (i := 6) (oi := { dst := some 28, op := Go.Op.load 3 (Go.Operand.tmp 27), type := 3, pos := "proxy.go:41", after := #[{ on := 5, ground := Go.Ground.data }], guard := none }) (v := ?_) rfl (by kernel_rfl) (by kernel_rfl) (by kernel_rfl) (fun _ _ _ h => h) (Or.inl ⟨by rfl, ?_⟩) hHeld ?_
  rotate_left
  · intro W hSw
    (try dsimp only at hSw)
    go_simp
    (try with_reducible rfl)
  (try simp only [Act.put, List.setIfInBounds_toArray, List.set_cons_zero, List.set_cons_succ])
  refine wpAnyH_take (i := 7) (oi := { dst := some 29, op := Go.Op.move (Go.Operand.tmp 0), type := 70, pos := "proxy.go:41", after := #[], guard := none }) (v := ?_) rfl (by kernel_rfl) (by kernel_rfl) (by kernel_rfl) (fun _ _ _ h => h) (Or.inl ⟨by rfl, ?_⟩) hHeld ?_
  rotate_left
  · intro W hSw
    (try dsimp only at hSw)
    go_simp
    (try with_reducible rfl)
  (try simp only [Act.put, List.setIfInBounds_toArray, List.set_cons_zero, List.set_cons_succ])
  refine wpAnyH_take (i := 8) (oi := { dst := some 30, op := Go.Op.nilCheck (Go.Operand.tmp 29), type := 0, pos := "proxy.go:41", after := #[{ on := 7, ground := Go.Ground.data }], guard := none }) (v := ?_) rfl (by kernel_rfl) (by kernel_rfl) (by kernel_rfl) (fun _ _ _ h => h) (Or.inl ⟨by rfl, ?_⟩) hHeld ?_
  rotate_left
  · intro W hSw
    (try dsimp only at hSw)
    go_simp
    (try with_reducible rfl)
  (try simp only [Act.put, List.setIfInBounds_toArray, List.set_cons_zero, List.set_cons_succ])
  refine wpAnyH_take (i := 9) (oi := { dst := some 31, op := Go.Op.fieldAddr 111 (Go.Operand.tmp 30) 0, type := 0, pos := "proxy.go:41", after := #[{ on := 8, ground := Go.Ground.data }], guard := none }) (v := ?_) rfl (by kernel_rfl) (by kernel_rfl) (by kernel_rfl) (fun _ _ _ h => h) (Or.inl ⟨by rfl, ?_⟩) hHeld ?_
  rotate_left
  · intro W hSw
    (try dsimp only at hSw)
    go_simp
    (try with_reducible rfl)
  (try simp only [Act.put, List.setIfInBounds_toArray, List.set_cons_zero, List.set_cons_succ])
  refine wpAnyH_take (i := 10) (oi := { dst := some 32, op := Go.Op.load 3 (Go.Operand.tmp 31), type := 3, pos := "proxy.go:41", after := #[{ on := 9, ground := Go.Ground.data }], guard := none }) (v := ?_) rfl (by kernel_rfl) (by kernel_rfl) (by kernel_rfl) (fun _ _ _ h => h) (Or.inl ⟨by rfl, ?_⟩) hHeld ?_
  rotate_left
  · intro W hSw
    (try dsimp only at hSw)
    go_simp
    (try with_reducible rfl)
  (try simp only [Act.put, List.setIfInBounds_toArray, List.set_cons_zero, List.set_cons_succ])
  refine wpAnyH_take (i := 11) (oi := { dst := some 33, op := Go.Op.move (Go.Operand.tmp 0), type := 70, pos := "proxy.go:41", after := #[], guard := none }) (v := ?_) rfl (by kernel_rfl) (by kernel_rfl) (by kernel_rfl) (fun _ _ _ h => h) (Or.inl ⟨by rfl, ?_⟩) hHeld ?_
  rotate_left
  · intro W hSw
    (try dsimp only at hSw)
    go_simp
    (try with_reducible rfl)
  (try simp only [Act.put, List.setIfInBounds_toArray, List.set_cons_zero, List.set_cons_succ])
  refine wpAnyH_take (i := 12) (oi := { dst := some 34, op := Go.Op.nilCheck (Go.Operand.tmp 33), type := 0, pos := "proxy.go:41", after := #[{ on := 11, ground := Go.Ground.data }], guard := none }) (v := ?_) rfl (by kernel_rfl) (by kernel_rfl) (by kernel_rfl) (fun _ _ _ h => h) (Or.inl ⟨by rfl, ?_⟩) hHeld ?_
  rotate_left
  · intro W hSw
    (try dsimp only at hSw)
    go_simp
    (try with_reducible rfl)
  (try simp only [Act.put, List.setIfInBounds_toArray, List.set_cons_zero, List.set_cons_succ])
  refine wpAnyH_take (i := 13) (oi := { dst := some 35, op := Go.Op.fieldAddr 111 (Go.Operand.tmp 34) 2, type := 0, pos := "proxy.go:41", after := #[{ on := 12, ground := Go.Ground.data }], guard := none }) (v := ?_) rfl (by kernel_rfl) (by kernel_rfl) (by kernel_rfl) (fun _ _ _ h => h) (Or.inl ⟨by rfl, ?_⟩) hHeld ?_
  rotate_left
  · intro W hSw
    (try dsimp only at hSw)
    go_simp
    (try with_reducible rfl)
  (try simp only [Act.put, List.setIfInBounds_toArray, List.set_cons_zero, List.set_cons_succ])
  refine wpAnyH_take (i := 14) (oi := { dst := some 36, op := Go.Op.load 3 (Go.Operand.tmp 35), type := 3, pos := "proxy.go:41", after := #[{ on := 13, ground := Go.Ground.data }], guard := none }) (v := ?_) rfl (by kernel_rfl) (by kernel_rfl) (by kernel_rfl) (fun _ _ _ h => h) (Or.inl ⟨by rfl, ?_⟩) hHeld ?_
  rotate_left
  · intro W hSw
    (try dsimp only at hSw)
    go_simp
    (try with_reducible rfl)
  (try simp only [Act.put, List.setIfInBounds_toArray, List.set_cons_zero, List.set_cons_succ])
  refine wpAnyH_ready (rs := [15]) (by kernel_rfl) (by simp) ?_
  refine AllReadyH.cons (o := { dst := some 37, op := Go.Op.call { callee := Go.Callee.value (Go.Operand.func 213), args := #[Go.Operand.tmp 32, Go.Operand.tmp 36], argTypes := #[3, 3] }, type := 3, pos := "proxy.go:41", after := #[{ on := 10, ground := Go.Ground.data }, { on := 14, ground := Go.Ground.data }], guard := none }) rfl (fun K hK => ?_) AllReadyH.nil
  go_simp
  refine (C26.out _).mono ?_; rintro e w4 ⟨rfl, hw4⟩; have A5 : Hid (All (pxL P (x.sub k nm tx a d n1) b m (min (2 * n1) m) n2 ++ (blkC H [.int .i64 k, .string nm, .string tx, .int .i64 a, .int .i64 d] 42 :: cs)) w4) := hid (by rw [hw4]; exact A4.out); have p1 := hid (SG.out _ A5.out); clear hw4
  refine hK.out _ _ p1.out (fun hHeld => ?_)
  clear hK K
  (try simp only [Act.put, List.setIfInBounds_toArray, List.set_cons_zero, List.set_cons_succ])
  refine wpAnyH_ready (rs := [16]) (by kernel_rfl) (by simp) ?_
  refine AllReadyH.cons (o := { dst := some 38, op := Go.Op.call { callee := Go.Callee.value (Go.Operand.func 78), args := #[Go.Operand.tmp 24, Go.Operand.tmp 28, Go.Operand.tmp 37], argTypes := #[107, 3, 3] }, type := 51, pos := "proxy.go:41", after := #[{ on := 2, ground := Go.Ground.data }, { on := 6, ground := Go.Ground.data }, { on := 15, ground := Go.Ground.data }, { on := 15, ground := Go.Ground.chain }], guard := none }) rfl (fun K hK => ?_) AllReadyH.nil
  go_simp
  refine (C25.out _ A5.out).mono ?_; rintro e w5 ⟨rfl, hw5⟩; have A6 := hid (A5.out.later hw5); have p2 := hid (SG.out _ A6.out); clear hw5
  refine hK.out _ _ p2.out (fun hHeld => ?_)
  clear hK K
  (try simp only [Act.put, List.setIfInBounds_toArray, List.set_cons_zero, List.set_cons_succ])
  refine wpAnyH_ready (rs := [17]) (by kernel_rfl) (by simp) ?_
  refine AllReadyH.cons (o := { dst := some 39, op := Go.Op.buildSlice 59 1 #[(0, Go.Operand.tmp 38)], type := 59, pos := "proxy.go:41", after := #[{ on := 16, ground := Go.Ground.data }], guard := none }) rfl (fun K hK => ?_) AllReadyH.nil
  rw [if_pos (by rfl)]
  refine wp_buildSlice 59 51 1 _ rfl MM.toArray ie z und49 BS.out.i BS.out.o BS.out.s BS.out.p (fill_of BS.out.f (by kernel_rfl)) ?_; have A7 := hid (A6.out.addBlk MM 51); have p3 := hid (SG.out _ A7.out.tail)
  refine hK.out _ _ p3.out (fun hHeld => ?_)
  clear hK K
  (try simp only [Act.put, List.setIfInBounds_toArray, List.set_cons_zero, List.set_cons_succ])
  refine wpAnyH_take (i := 18) (oi := { dst := some 4, op := Go.Op.assign (Go.Operand.tmp 39), type := 59, pos := "proxy.go:41", after := #[{ on := 17, ground := Go.Ground.data }, { on := 16, ground := Go.Ground.chain }, { on := 0, ground := Go.Ground.phase }, { on := 1, ground := Go.Ground.phase }, { on := 2, ground := Go.Ground.phase }, { on := 3, ground := Go.Ground.phase }, { on := 4, ground := Go.Ground.phase }, { on := 5, ground := Go.Ground.phase }, { on := 6, ground := Go.Ground.phase }, { on := 7, ground := Go.Ground.phase }, { on := 8, ground := Go.Ground.phase }, { on := 9, ground := Go.Ground.phase }, { on := 10, ground := Go.Ground.phase }, { on := 11, ground := Go.Ground.phase }, { on := 12, ground := Go.Ground.phase }, { on := 13, ground := Go.Ground.phase }, { on := 14, ground := Go.Ground.phase }, { on := 15, ground := Go.Ground.phase }, { on := 16, ground := Go.Ground.phase }, { on := 17, ground := Go.Ground.phase }], guard := none }) (v := ?_) rfl (by kernel_rfl) (by kernel_rfl) (by kernel_rfl) (fun _ _ _ h => h) (Or.inl ⟨by rfl, ?_⟩) hHeld ?_
  rotate_left
  · intro W hSw
    (try dsimp only at hSw)
    go_simp
    (try with_reducible rfl)
  (try simp only [Act.put, List.setIfInBounds_toArray, List.set_cons_zero, List.set_cons_succ])
  refine wpAnyH_take (i := 19) (oi := { dst := some 5, op := Go.Op.assign (Go.Operand.const (Go.Value.int Go.IntKind.i64 0)), type := 35, pos := "proxy.go:41", after := #[{ on := 18, ground := Go.Ground.chain }, { on := 0, ground := Go.Ground.phase }, { on := 1, ground := Go.Ground.phase }, { on := 2, ground := Go.Ground.phase }, { on := 3, ground := Go.Ground.phase }, { on := 4, ground := Go.Ground.phase }, { on := 5, ground := Go.Ground.phase }, { on := 6, ground := Go.Ground.phase }, { on := 7, ground := Go.Ground.phase }, { on := 8, ground := Go.Ground.phase }, { on := 9, ground := Go.Ground.phase }, { on := 10, ground := Go.Ground.phase }, { on := 11, ground := Go.Ground.phase }, { on := 12, ground := Go.Ground.phase }, { on := 13, ground := Go.Ground.phase }, { on := 14, ground := Go.Ground.phase }, { on := 15, ground := Go.Ground.phase }, { on := 16, ground := Go.Ground.phase }, { on := 17, ground := Go.Ground.phase }, { on := 18, ground := Go.Ground.phase }], guard := none }) (v := ?_) rfl (by kernel_rfl) (by kernel_rfl) (by kernel_rfl) (fun _ _ _ h => h) (Or.inl ⟨by rfl, ?_⟩) hHeld ?_
  rotate_left
  · intro W hSw
    (try dsimp only at hSw)
    go_simp
    (try with_reducible rfl)
  (try simp only [Act.put, List.setIfInBounds_toArray, List.set_cons_zero, List.set_cons_succ])
  refine wpAnyH_done (by kernel_rfl) ?_ _
  clear hHeld
  clear p0 p1 p2 p3 SG C26 C25
  obtain ⟨G, hG⟩ : ∃ G, Hid (G = w5.heap.size) := ⟨_, hid rfl⟩
  rw [← hG.out] at A7
  simp only [← hG.out]
  generalize w5.alloc (.cells MM.toArray 51) = w6 at A7 ⊢
  go_wp2
  go_ret2
  exact ⟨G, rfl, (A7.out.perm (List.Perm.cons _ (List.perm_middle (l₁ := pxL P (x.sub k nm tx a d n1) b m (min (2 * n1) m) n2)))).swap.tail⟩
end Go.Proofs.YtdhkdniddjnigaaGreatDoor

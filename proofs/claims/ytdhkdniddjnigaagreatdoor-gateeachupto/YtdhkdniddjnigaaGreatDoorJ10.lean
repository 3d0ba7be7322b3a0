import Derived.Test.YtdhkdniddjnigaaGreatDoorJ9
import Derived.Deep.RegionHeld3
import Derived.Deep.DeepCutAuto
import Derived.Deep.QuietTactic
import Derived.BigQuiet
import Derived.Lib.OthersKept
import Derived.WalkSmall
import Derived.Deep.MidRow
namespace Go.Proofs.YtdhkdniddjnigaaGreatDoor
open Go.RowKit
set_option linter.unusedVariables false

def fldN : List (List UInt8) := [[], [81, 79], [86, 75, 81, 82], [86, 81], [86, 75, 67, 69], [86, 75], [86, 75, 67], [86], [86, 67, 78, 71], [86, 67, 71], [86, 76], [86, 67, 76, 72, 71], [86, 75, 67], [86, 67, 71], [75, 81, 79], [75, 81, 82]]
def fldS (i : Nat) : ByteArray := ⟨(fldN.getD i []).toArray⟩
/-- The table of fields, as the program's text lays it. -/
structure Fld (w : World) : Prop where
  lt : 2 < w.heap.size
  cell : ∀ i, i < 16 → w.cell? ⟨2, i, none⟩ = some (.string (fldS i))
theorem Fld.below {w w' : World} (h : Fld w) (hb : Below w.heap.size w w') : Fld w' :=
  ⟨Nat.lt_of_lt_of_le h.lt hb.size, fun i hi => cell_under hb h.lt (h.cell i hi)⟩

theorem hasCargo_any {w : World} {b : Nat} {k : Int} {v : Bool} (h0 : w.cell? ⟨b, 0, none⟩ = some (.int .i64 k)) (h9 : w.cell? ⟨b, 9, none⟩ = some (.bool v)) : Calls Tryz.prog 167 #[.pointer (some ⟨b, 0, none⟩)] w fun e w' => e = .returned (.bool (decide (k ≠ 11) || v)) ∧ w' = w := by
  by_cases hk : k = 11
  · subst hk
    go_enter Tryz.func167, Tryz.ntmps167
    go_wp2
    go_ret
    exact ⟨by simp, rfl⟩
  · have e1 : (k != 11) = true := by simpa using hk
    go_enter Tryz.func167, Tryz.ntmps167
    go_wp2
    go_ret
    exact ⟨by simp [hk], rfl⟩
/-- Is it one of the letters of its kind? -/
def inK (k : Nat) (r : Nat) : Bool := decide (0 ≤ Lib.indexByte (fldN.getD k []) r.toUInt8)
set_option maxRecDepth 100000 in
theorem has74_any {w : World} {b k : Nat} {r : Nat} {v : Bool} (hF : Fld w) (hk : k < 16) (hr : r < 128) (h0 : w.cell? ⟨b, 0, none⟩ = some (.int .i64 (k : Int))) (h9 : w.cell? ⟨b, 9, none⟩ = some (.bool v)) : Calls Tryz.prog 125 #[.pointer (some ⟨b, 0, none⟩), .int .i32 (r : Int)] w fun e w' => e = .returned (.bool (inK k r && (decide (r ≠ 71) || (decide ((k : Int) ≠ 11) || v)))) ∧ Below w.heap.size w w' := by
  have c := hF.cell k hk
  have j1 : (k : Int) < 16 := by omega
  have C : Hid (∀ W, Calls Tryz.prog 166 #[.string (fldS k), .int .i32 (r : Int)] W fun e w' => e = .returned (.bool (inK k r)) ∧ w' = W) := hid (fun W => by
    refine (contains_any (fldS k) (r : Int) W (by omega) (by omega)).mono ?_
    rintro e w' ⟨rfl, rfl⟩
    exact ⟨rfl, rfl⟩)
  have HC := hid (hasCargo_any h0 h9)
  clear hF
  generalize inK k r = B at *
  cases B
  · go_enter Tryz.func125, Tryz.ntmps125
    go_wp2_with fail
    refine (C.out _).mono ?_
    rintro e w1 ⟨rfl, rfl⟩
    go_wp2
    go_ret
    exact ⟨rfl, Below.refl _ _⟩
  · by_cases h71 : r = 71
    · subst h71
      go_enter Tryz.func125, Tryz.ntmps125
      go_wp2_with fail
      refine (C.out _).mono ?_
      rintro e w1 ⟨rfl, rfl⟩
      go_wp2_with fail
      refine HC.out.mono ?_
      rintro e w1 ⟨rfl, rfl⟩
      go_wp2
      go_ret
      exact ⟨by simp, Below.refl _ _⟩
    · have e1 : ((r : Int) != 71) = true := by simp; omega
      have e2 : ¬ (r : Int) = 71 := by omega
      go_enter Tryz.func125, Tryz.ntmps125
      go_wp2_with fail
      refine (C.out _).mono ?_
      rintro e w1 ⟨rfl, rfl⟩
      go_wp2
      go_ret
      exact ⟨by simp [h71], Below.refl _ _⟩
end Go.Proofs.YtdhkdniddjnigaaGreatDoor

namespace Go.Proofs.YtdhkdniddjnigaaGreatDoor
open Go.RowKit
set_option linter.unusedVariables false

/-- A message. -/
structure Ms where
  k : Int
  f : Int
  t : Int
  v : Int
  n : Int
  c : Int
  o : Int
  l : Int
  q : Int
  h : Bool
  ok : Int
  onm : ByteArray
  otx : ByteArray
  on : Int
  om : Int
  rc : Int
  rn : Int
  ra : Option Addr
  rl : Nat
  rp : Nat
  ea : Option Addr
  el : Nat
  ep : Nat
  cf : Int
  cb : Int
  sa : Option Addr
  sl : Nat
  sp : Nat
  xa : Option Addr
  xl : Nat
  xp : Nat
def Ms.cells (m : Ms) : List Value := [.int .i64 m.k, .int .i64 m.f, .int .i64 m.t, .int .i64 m.v, .int .i64 m.n, .int .i64 m.c, .int .i64 m.o, .int .i64 m.l, .int .i64 m.q, .bool m.h, .int .i64 m.ok, .string m.onm, .string m.otx, .int .i64 m.on, .int .i64 m.om, .int .i64 m.rc, .int .i64 m.rn, .slice m.ra m.rl m.rp, .slice m.ea m.el m.ep, .int .i64 m.cf, .int .i64 m.cb, .slice m.sa m.sl m.sp, .slice m.xa m.xl m.xp]
/-- It lies here. -/
def MsAt (w : World) (b : Nat) (m : Ms) : Prop := ∀ j u, m.cells[j]? = some u → w.cell? ⟨b, j, none⟩ = some u
theorem MsAt.under {w w' : World} {b : Nat} {m : Ms} (h : MsAt w b m) (hb : Below w.heap.size w w') : MsAt w' b m := fun j u hu => by
  have h1 := h j u hu
  exact cell_under hb (World.block_lt_of_cell? _ _ h1) h1
theorem zeroV {w : World} {b : Nat} {m : Ms} (h : MsAt w b m) : Calls Tryz.prog 128 #[.pointer (some ⟨b, 0, none⟩), .int .i32 86] w fun e w' => e = .returned (.bool (m.v == 0)) ∧ w' = w := by
  have c : w.cell? ⟨b, 3, none⟩ = some (.int .i64 m.v) := h 3 _ rfl
  clear h
  go_enter Tryz.func128, Tryz.ntmps128
  go_wp2
  go_ret
  exact ⟨rfl, rfl⟩
theorem zeroK {w : World} {b : Nat} {m : Ms} (h : MsAt w b m) : Calls Tryz.prog 128 #[.pointer (some ⟨b, 0, none⟩), .int .i32 75] w fun e w' => e = .returned (.bool (m.n == 0)) ∧ w' = w := by
  have c : w.cell? ⟨b, 4, none⟩ = some (.int .i64 m.n) := h 4 _ rfl
  clear h
  go_enter Tryz.func128, Tryz.ntmps128
  go_wp2
  go_ret
  exact ⟨rfl, rfl⟩
theorem zeroC {w : World} {b : Nat} {m : Ms} (h : MsAt w b m) : Calls Tryz.prog 128 #[.pointer (some ⟨b, 0, none⟩), .int .i32 67] w fun e w' => e = .returned (.bool (m.c == 0)) ∧ w' = w := by
  have c : w.cell? ⟨b, 5, none⟩ = some (.int .i64 m.c) := h 5 _ rfl
  clear h
  go_enter Tryz.func128, Tryz.ntmps128
  go_wp2
  go_ret
  exact ⟨rfl, rfl⟩
theorem zeroN {w : World} {b : Nat} {m : Ms} (h : MsAt w b m) : Calls Tryz.prog 128 #[.pointer (some ⟨b, 0, none⟩), .int .i32 78] w fun e w' => e = .returned (.bool (m.o == 0)) ∧ w' = w := by
  have c : w.cell? ⟨b, 6, none⟩ = some (.int .i64 m.o) := h 6 _ rfl
  clear h
  go_enter Tryz.func128, Tryz.ntmps128
  go_wp2
  go_ret
  exact ⟨rfl, rfl⟩
theorem zeroL {w : World} {b : Nat} {m : Ms} (h : MsAt w b m) : Calls Tryz.prog 128 #[.pointer (some ⟨b, 0, none⟩), .int .i32 76] w fun e w' => e = .returned (.bool (m.l == 0)) ∧ w' = w := by
  have c : w.cell? ⟨b, 7, none⟩ = some (.int .i64 m.l) := h 7 _ rfl
  clear h
  go_enter Tryz.func128, Tryz.ntmps128
  go_wp2
  go_ret
  exact ⟨rfl, rfl⟩
theorem zeroQ {w : World} {b : Nat} {m : Ms} (h : MsAt w b m) : Calls Tryz.prog 128 #[.pointer (some ⟨b, 0, none⟩), .int .i32 81] w fun e w' => e = .returned (.bool (m.q == 0)) ∧ w' = w := by
  have c : w.cell? ⟨b, 8, none⟩ = some (.int .i64 m.q) := h 8 _ rfl
  clear h
  go_enter Tryz.func128, Tryz.ntmps128
  go_wp2
  go_ret
  exact ⟨rfl, rfl⟩
theorem zeroH {w : World} {b : Nat} {m : Ms} (h : MsAt w b m) : Calls Tryz.prog 128 #[.pointer (some ⟨b, 0, none⟩), .int .i32 72] w fun e w' => e = .returned (.bool (!m.h)) ∧ w' = w := by
  have c : w.cell? ⟨b, 9, none⟩ = some (.bool m.h) := h 9 _ rfl
  clear h
  go_enter Tryz.func128, Tryz.ntmps128
  go_wp2
  go_ret
  exact ⟨rfl, rfl⟩
theorem zeroE {w : World} {b : Nat} {m : Ms} (h : MsAt w b m) : Calls Tryz.prog 128 #[.pointer (some ⟨b, 0, none⟩), .int .i32 69] w fun e w' => e = .returned (.bool ((m.el : Int) == 0)) ∧ w' = w := by
  have c : w.cell? ⟨b, 18, none⟩ = some (.slice m.ea m.el m.ep) := h 18 _ rfl
  clear h
  go_enter Tryz.func128, Tryz.ntmps128
  go_wp2
  go_ret
  exact ⟨by simp, rfl⟩
end Go.Proofs.YtdhkdniddjnigaaGreatDoor

namespace Go.Proofs.YtdhkdniddjnigaaGreatDoor
open Go.RowKit
set_option linter.unusedVariables false

def lstK (k : Int) : Int := if k = 4 then 1 else 0
theorem least_any {w : World} (k : Int) : Calls Tryz.prog 168 #[.int .i64 k] w fun e w' => e = .returned (.int .i64 (lstK k)) ∧ w' = w := by
  by_cases h : k = 4
  · subst h
    go_enter Tryz.func168, Tryz.ntmps168
    go_wp2
    go_ret
    exact ⟨by simp [lstK], rfl⟩
  · have e1 : (k == 4) = false := by simpa using h
    go_enter Tryz.func168, Tryz.ntmps168
    go_wp2
    go_ret
    exact ⟨by simp [lstK, h], rfl⟩
def inR (n a b : Int) : Bool := decide (a ≤ n ∧ n ≤ b)
theorem within_b {w : World} (n a b : Int) : Calls Tryz.prog 124 #[.int .i64 n, .int .i64 a, .int .i64 b] w fun e w' => e = .returned (.bool (inR n a b)) ∧ w' = w := within_any n a b
theorem mayV {w : World} {b : Nat} {m : Ms} (h : MsAt w b m) : Calls Tryz.prog 126 #[.pointer (some ⟨b, 0, none⟩), .int .i32 86] w fun e w' => e = .returned (.bool (inR m.v 0 1099511627776)) ∧ w' = w := by
  have c : w.cell? ⟨b, 3, none⟩ = some (.int .i64 m.v) := h 3 _ rfl
  clear h
  go_enter Tryz.func126, Tryz.ntmps126
  go_wp2_with fail
  refine (within_b _ _ _).mono ?_
  rintro e w' ⟨rfl, rfl⟩
  go_wp2
  go_ret
  exact ⟨rfl, rfl⟩
theorem mayC {w : World} {b : Nat} {m : Ms} (h : MsAt w b m) : Calls Tryz.prog 126 #[.pointer (some ⟨b, 0, none⟩), .int .i32 67] w fun e w' => e = .returned (.bool (inR m.c 0 1099511627776)) ∧ w' = w := by
  have c : w.cell? ⟨b, 5, none⟩ = some (.int .i64 m.c) := h 5 _ rfl
  clear h
  go_enter Tryz.func126, Tryz.ntmps126
  go_wp2_with fail
  refine (within_b _ _ _).mono ?_
  rintro e w' ⟨rfl, rfl⟩
  go_wp2
  go_ret
  exact ⟨rfl, rfl⟩
theorem mayL {w : World} {b : Nat} {m : Ms} (h : MsAt w b m) : Calls Tryz.prog 126 #[.pointer (some ⟨b, 0, none⟩), .int .i32 76] w fun e w' => e = .returned (.bool (inR m.l 1 1099511627776)) ∧ w' = w := by
  have c : w.cell? ⟨b, 7, none⟩ = some (.int .i64 m.l) := h 7 _ rfl
  clear h
  go_enter Tryz.func126, Tryz.ntmps126
  go_wp2_with fail
  refine (within_b _ _ _).mono ?_
  rintro e w' ⟨rfl, rfl⟩
  go_wp2
  go_ret
  exact ⟨rfl, rfl⟩
theorem mayQ {w : World} {b : Nat} {m : Ms} (h : MsAt w b m) : Calls Tryz.prog 126 #[.pointer (some ⟨b, 0, none⟩), .int .i32 81] w fun e w' => e = .returned (.bool (inR m.q 1 1099511627776)) ∧ w' = w := by
  have c : w.cell? ⟨b, 8, none⟩ = some (.int .i64 m.q) := h 8 _ rfl
  clear h
  go_enter Tryz.func126, Tryz.ntmps126
  go_wp2_with fail
  refine (within_b _ _ _).mono ?_
  rintro e w' ⟨rfl, rfl⟩
  go_wp2
  go_ret
  exact ⟨rfl, rfl⟩
theorem mayN {w : World} {b : Nat} {m : Ms} (h : MsAt w b m) : Calls Tryz.prog 126 #[.pointer (some ⟨b, 0, none⟩), .int .i32 78] w fun e w' => e = .returned (.bool (inR m.o 0 m.v)) ∧ Below w.heap.size w w' := by
  have c0 : w.cell? ⟨b, 6, none⟩ = some (.int .i64 m.o) := h 6 _ rfl
  have c1 : w.cell? ⟨b, 3, none⟩ = some (.int .i64 m.v) := h 3 _ rfl
  have A0 := hid (All.came w)
  have SS : Hid (∀ W, All [inC w] W → W.cell? ⟨b, 6, none⟩ = some (.int .i64 m.o) ∧ W.cell? ⟨b, 3, none⟩ = some (.int .i64 m.v)) := hid (fun W hW => by
    have hm := h.under (hW.into (w0 := w) (by simp))
    exact ⟨hm 6 _ rfl, hm 3 _ rfl⟩)
  have p0 := hid (SS.out _ A0.out)
  clear h
  go_enter Tryz.func126, Tryz.ntmps126
  go_wp2_with fail
  go_region_held3 (fun W => W.cell? ⟨b, 6, none⟩ = some (.int .i64 m.o) ∧ W.cell? ⟨b, 3, none⟩ = some (.int .i64 m.v)) (first | exact p0.out | exact p1.out)
    ((go_at_call 124; refine (within_b _ _ _).mono ?_; rintro e w1 ⟨rfl, hw1⟩; have A1 := hid (A0.out.drew); rw [← hw1] at A1; have p1 := hid (SS.out _ A1.out); clear hw1))
  clear p0 p1 c0 c1
  go_wp2
  go_ret
  exact ⟨rfl, A1.out.into (w0 := w) (by simp)⟩
theorem mayK {w : World} {b : Nat} {m : Ms} (h : MsAt w b m) : Calls Tryz.prog 126 #[.pointer (some ⟨b, 0, none⟩), .int .i32 75] w fun e w' => e = .returned (.bool (inR m.n (lstK m.k) 1099511627776)) ∧ Below w.heap.size w w' := by
  have c0 : w.cell? ⟨b, 4, none⟩ = some (.int .i64 m.n) := h 4 _ rfl
  have c1 : w.cell? ⟨b, 0, none⟩ = some (.int .i64 m.k) := h 0 _ rfl
  have A0 := hid (All.came w)
  have SS : Hid (∀ W, All [inC w] W → W.cell? ⟨b, 4, none⟩ = some (.int .i64 m.n) ∧ W.cell? ⟨b, 0, none⟩ = some (.int .i64 m.k)) := hid (fun W hW => by
    have hm := h.under (hW.into (w0 := w) (by simp))
    exact ⟨hm 4 _ rfl, hm 0 _ rfl⟩)
  have p0 := hid (SS.out _ A0.out)
  clear h
  go_enter Tryz.func126, Tryz.ntmps126
  go_wp2_with fail
  go_region_held3 (fun W => W.cell? ⟨b, 4, none⟩ = some (.int .i64 m.n) ∧ W.cell? ⟨b, 0, none⟩ = some (.int .i64 m.k)) (first | exact p0.out | exact p1.out | exact p2.out)
    (first
      | (go_at_call 168; refine (least_any _).mono ?_; rintro e w1 ⟨rfl, hw1⟩; have A1 := hid (A0.out.drew); rw [← hw1] at A1; have p1 := hid (SS.out _ A1.out); clear hw1)
      | (go_at_call 124; refine (within_b _ _ _).mono ?_; rintro e w2 ⟨rfl, hw2⟩; have A2 := hid (A1.out); rw [← hw2] at A2; have p2 := hid (SS.out _ A2.out); clear hw2))
  clear p0 p1 p2 c0 c1
  go_wp2
  go_ret
  exact ⟨rfl, A2.out.into (w0 := w) (by simp)⟩
end Go.Proofs.YtdhkdniddjnigaaGreatDoor

namespace Go.Proofs.YtdhkdniddjnigaaGreatDoor
open Go.RowKit Go.Lib
set_option linter.unusedVariables false

theorem iterAt_below {w wr : World} {s : ByteArray} {k p : Nat} (h : Below w.heap.size w wr) (hk : w.heap.size ≤ k) : Below w.heap.size w (wr.iterAt k s p) := by
  refine ⟨h.os, h.tape, h.output, ?_, fun i hi => ?_⟩
  · have := h.size
    simpa [World.iterAt] using this
  · rw [← h.block i hi]
    simp only [World.iterAt]
    rw [Array.getElem?_setIfInBounds_ne (by omega)]
def allF : ByteArray := ⟨#[86, 75, 67, 78, 76, 81, 72, 79, 82, 69, 71]⟩
theorem fld_ascii (k : Nat) (r : UInt8) (h : r ∈ fldN.getD k []) : r.toNat < 128 := by
  have key : ∀ l ∈ fldN, ∀ r ∈ l, r.toNat < 128 := by decide
  by_cases hk : k < fldN.length
  · rw [List.getD, List.getElem?_eq_getElem hk] at h
    exact key _ (List.getElem_mem hk) r h
  · rw [List.getD, List.getElem?_eq_none (by omega)] at h
    cases h
theorem all_ascii (i : Nat) (h : i < allF.size) : (allF[i]'h).toNat < 128 ∧ allF[i]'h ∈ allF.data.toList := by
  have hm : allF[i]'h ∈ allF.data.toList := by
    simp only [Array.mem_toList_iff]
    exact Array.getElem_mem _
  have key : ∀ r ∈ allF.data.toList, r.toNat < 128 := by decide
  exact ⟨key _ hm, hm⟩
def inH (k : Nat) (h : Bool) (r : Nat) : Bool := inK k r && (decide (r ≠ 71) || (decide ((k : Int) ≠ 11) || h))
end Go.Proofs.YtdhkdniddjnigaaGreatDoor

namespace Go.Proofs.YtdhkdniddjnigaaGreatDoor
open Go.RowKit Go.Lib
set_option linter.unusedVariables false

abbrev Ms.V (m : Ms) : Value := .agg #[.int .i64 m.k, .int .i64 m.f, .int .i64 m.t, .int .i64 m.v, .int .i64 m.n, .int .i64 m.c, .int .i64 m.o, .int .i64 m.l, .int .i64 m.q, .bool m.h, .int .i64 m.ok, .string m.onm, .string m.otx, .int .i64 m.on, .int .i64 m.om, .int .i64 m.rc, .int .i64 m.rn, .slice m.ra m.rl m.rp, .slice m.ea m.el m.ep, .int .i64 m.cf, .int .i64 m.cb, .slice m.sa m.sl m.sp, .slice m.xa m.xl m.xp]
theorem MsAt.new (w : World) (m : Ms) : MsAt (w.alloc (.cells m.cells.toArray 51)) w.heap.size m := by
  intro j u hu
  rw [cell_at (heap_alloc_new w _)]
  simpa using hu
/-- The cells of a message. -/
def MsC (b : Nat) (m : Ms) (W : World) : Prop := W.cell? ⟨b, 0, none⟩ = some (.int .i64 m.k) ∧ W.cell? ⟨b, 1, none⟩ = some (.int .i64 m.f) ∧ W.cell? ⟨b, 2, none⟩ = some (.int .i64 m.t) ∧ W.cell? ⟨b, 3, none⟩ = some (.int .i64 m.v) ∧ W.cell? ⟨b, 4, none⟩ = some (.int .i64 m.n) ∧ W.cell? ⟨b, 5, none⟩ = some (.int .i64 m.c) ∧ W.cell? ⟨b, 6, none⟩ = some (.int .i64 m.o) ∧ W.cell? ⟨b, 7, none⟩ = some (.int .i64 m.l) ∧ W.cell? ⟨b, 8, none⟩ = some (.int .i64 m.q) ∧ W.cell? ⟨b, 9, none⟩ = some (.bool m.h) ∧ W.cell? ⟨b, 10, none⟩ = some (.int .i64 m.ok) ∧ W.cell? ⟨b, 11, none⟩ = some (.string m.onm) ∧ W.cell? ⟨b, 12, none⟩ = some (.string m.otx) ∧ W.cell? ⟨b, 13, none⟩ = some (.int .i64 m.on) ∧ W.cell? ⟨b, 14, none⟩ = some (.int .i64 m.om) ∧ W.cell? ⟨b, 15, none⟩ = some (.int .i64 m.rc) ∧ W.cell? ⟨b, 16, none⟩ = some (.int .i64 m.rn) ∧ W.cell? ⟨b, 17, none⟩ = some (.slice m.ra m.rl m.rp) ∧ W.cell? ⟨b, 18, none⟩ = some (.slice m.ea m.el m.ep) ∧ W.cell? ⟨b, 19, none⟩ = some (.int .i64 m.cf) ∧ W.cell? ⟨b, 20, none⟩ = some (.int .i64 m.cb) ∧ W.cell? ⟨b, 21, none⟩ = some (.slice m.sa m.sl m.sp) ∧ W.cell? ⟨b, 22, none⟩ = some (.slice m.xa m.xl m.xp)
theorem MsAt.all {W : World} {b : Nat} {m : Ms} (h : MsAt W b m) : MsC b m W := ⟨h 0 _ rfl, h 1 _ rfl, h 2 _ rfl, h 3 _ rfl, h 4 _ rfl, h 5 _ rfl, h 6 _ rfl, h 7 _ rfl, h 8 _ rfl, h 9 _ rfl, h 10 _ rfl, h 11 _ rfl, h 12 _ rfl, h 13 _ rfl, h 14 _ rfl, h 15 _ rfl, h 16 _ rfl, h 17 _ rfl, h 18 _ rfl, h 19 _ rfl, h 20 _ rfl, h 21 _ rfl, h 22 _ rfl⟩

end Go.Proofs.YtdhkdniddjnigaaGreatDoor

namespace Go.Proofs.YtdhkdniddjnigaaGreatDoor
open Go.RowKit
set_option linter.unusedVariables false

/-- What opsMayBe tells. -/
def opsB (f b : Int) (xl : Nat) : Bool := decide (0 ≤ f ∧ f ≤ b ∧ (xl : Int) ≤ 64 ∧ b ≤ 1099511627776 - (xl : Int))
/-- A cargo as a value. -/
abbrev cgV (f b : Int) (sa : Option Addr) (sl sp : Nat) (xa : Option Addr) (xl xp : Nat) : Value := .agg #[.int .i64 f, .int .i64 b, .slice sa sl sp, .slice xa xl xp]
set_option maxRecDepth 1000000 in
theorem ops_any {w : World} (f b : Int) (sa : Option Addr) (sl sp : Nat) (xa : Option Addr) (xl xp : Nat) : Calls Tryz.prog 197 #[cgV f b sa sl sp xa xl xp] w fun e w' => e = .returned (.bool (opsB f b xl)) ∧ Below w.heap.size w w' := by
  by_cases c0 : 0 ≤ f
  rotate_left
  · have F : Hid (opsB f b xl = false) := hid (by simp only [opsB, decide_eq_false_iff_not]; omega)
    have e0 : decide (0 ≤ f) = false := by simpa using c0
    clear c0
    go_enter Tryz.func197, Tryz.ntmps197
    go_wp2
    go_ret
    exact ⟨by rw [F.out]; rfl, ba _ _⟩
  have e0 : decide (0 ≤ f) = true := by simpa using c0
  by_cases c1 : f ≤ b
  rotate_left
  · have F : Hid (opsB f b xl = false) := hid (by simp only [opsB, decide_eq_false_iff_not]; omega)
    have e1 : decide (f ≤ b) = false := by simpa using c1
    clear c1
    go_enter Tryz.func197, Tryz.ntmps197
    go_wp2
    go_ret
    exact ⟨by rw [F.out]; rfl, ba _ _⟩
  have e1 : decide (f ≤ b) = true := by simpa using c1
  by_cases c2 : (xl : Int) ≤ 64
  rotate_left
  · have F : Hid (opsB f b xl = false) := hid (by simp only [opsB, decide_eq_false_iff_not]; omega)
    have e2 : decide ((xl : Int) ≤ 64) = false := by simpa using c2
    clear c2
    go_enter Tryz.func197, Tryz.ntmps197
    go_wp2
    go_ret
    exact ⟨by rw [F.out]; rfl, ba _ _⟩
  have e2 : decide ((xl : Int) ≤ 64) = true := by simpa using c2
  have hs : IntKind.i64.wrap (1099511627776 - (xl : Int)) = 1099511627776 - (xl : Int) := by rw [IntKind.wrap_i64]; omega
  by_cases c3 : b ≤ 1099511627776 - (xl : Int)
  rotate_left
  · have F : Hid (opsB f b xl = false) := hid (by simp only [opsB, decide_eq_false_iff_not]; omega)
    have e3 : decide (b ≤ 1099511627776 - (xl : Int)) = false := by simpa using c3
    clear c0 c1 c2 c3
    go_enter Tryz.func197, Tryz.ntmps197
    go_wp2
    go_ret
    exact ⟨by rw [F.out]; rfl, ba _ _⟩
  have e3 : decide (b ≤ 1099511627776 - (xl : Int)) = true := by simpa using c3
  have F : Hid (opsB f b xl = true) := hid (by simp only [opsB, decide_eq_true_eq]; omega)
  clear c0 c1 c2 c3
  go_enter Tryz.func197, Tryz.ntmps197
  go_wp2
  go_ret
  exact ⟨by rw [F.out]; rfl, ba _ _⟩
end Go.Proofs.YtdhkdniddjnigaaGreatDoor

import Derived.Shelf.Strings.Runes
import Derived.Test.YtdhkdniddjnigaaGreatDoorProg
import Derived.Test.YtdhkdniddjnigaaGreatDoorJ7
import Derived.Deep.RegionHeld3
import Derived.Deep.DeepCutAuto
import Derived.Deep.QuietTactic
import Derived.BigQuiet
/- strings.ContainsRune at this program: which number is which. -/
namespace Go.Proofs
open Go.Shelf
def Tryz.lays151_ren : Go.Shelf.Ren := ⟨fun | 151 => 166 | 152 => 194 | 137 => 188 | 119 => 216 | 224 => 84 | 225 => 217 | 217 => 209 | 266 => 222 | n => n, fun | 9 => 9 | 21 => 21 | 4 => 4 | 3 => 3 | 5 => 5 | 0 => 0 | 46 => 157 | n => n, fun | n => n⟩
theorem Tryz.lays151 : Go.Proofs.Lays.n151 Tryz.prog Tryz.lays151_ren := {
  mixed := by kernel_rfl
  f119 := Tryz.func216.trans (congrArg some (by kernel_rfl))
  f137 := Tryz.func188.trans (congrArg some (by kernel_rfl))
  f151 := Tryz.func166.trans (congrArg some (by kernel_rfl))
  f152 := Tryz.func194.trans (congrArg some (by kernel_rfl))
  f217 := Tryz.func209.trans (congrArg some (by kernel_rfl))
  f224 := Tryz.func84.trans (congrArg some (by kernel_rfl))
  f225 := Tryz.func217.trans (congrArg some (by kernel_rfl))
  f266 := Tryz.func222.trans (congrArg some (by kernel_rfl))
  t0 := Tryz.underlying0
  a0 := Tryz.isAgg0
  z0 := Tryz.sizeOf0
  v0 := Tryz.zeroValue0
  t3 := Tryz.underlying3
  a3 := Tryz.isAgg3
  z3 := Tryz.sizeOf3
  v3 := Tryz.zeroValue3
  t4 := Tryz.underlying4
  a4 := Tryz.isAgg4
  z4 := Tryz.sizeOf4
  v4 := Tryz.zeroValue4
  t5 := Tryz.underlying5
  a5 := Tryz.isAgg5
  z5 := Tryz.sizeOf5
  v5 := Tryz.zeroValue5
  t9 := Tryz.underlying9
  a9 := Tryz.isAgg9
  z9 := Tryz.sizeOf9
  v9 := Tryz.zeroValue9
  t21 := Tryz.underlying21
  a21 := Tryz.isAgg21
  z21 := Tryz.sizeOf21
  v21 := Tryz.zeroValue21
  t46 := Tryz.underlying157
  a46 := Tryz.isAgg157
  z46 := Tryz.sizeOf157
  v46 := Tryz.zeroValue157 }
end Go.Proofs

namespace Go.Proofs.YtdhkdniddjnigaaGreatDoor
open Go.RowKit Go.Lib
set_option linter.unusedVariables false

theorem contains_any (s : ByteArray) (r : Int) (w : World) (h0 : 0 ≤ r) (h1 : r < 128) : Calls Tryz.prog 166 #[.string s, .int .i32 r] w fun e w' => e = .returned (.bool (decide (0 ≤ Lib.indexByte s.data.toList r.toNat.toUInt8))) ∧ w' = w :=
  Any.strings_ContainsRune_ascii Tryz.lays151 s r w h0 h1
end Go.Proofs.YtdhkdniddjnigaaGreatDoor

namespace Go.Proofs.YtdhkdniddjnigaaGreatDoor
open Go.RowKit
set_option linter.unusedVariables false

theorem fleet_any {w : World} (n : Int) : Calls Tryz.prog 89 #[.int .i64 n] w fun e w' => e = .returned (.bool (decide (n = 3 ∨ n = 5 ∨ n = 7))) ∧ w' = w := by
  by_cases h3 : n = 3
  · subst h3
    go_enter Tryz.func89, Tryz.ntmps89
    go_wp2
    go_ret
    exact ⟨by simp, rfl⟩
  by_cases h5 : n = 5
  · subst h5
    go_enter Tryz.func89, Tryz.ntmps89
    go_wp2
    go_ret
    exact ⟨by simp, rfl⟩
  by_cases h7 : n = 7
  · subst h7
    go_enter Tryz.func89, Tryz.ntmps89
    go_wp2
    go_ret
    exact ⟨by simp, rfl⟩
  have e3 : (n == 3) = false := by simpa using h3
  have e5 : (n == 5) = false := by simpa using h5
  have e7 : (n == 7) = false := by simpa using h7
  go_enter Tryz.func89, Tryz.ntmps89
  go_wp2
  go_ret
  exact ⟨by simp [h3, h5, h7], rfl⟩
theorem within_any {w : World} (n a b : Int) : Calls Tryz.prog 124 #[.int .i64 n, .int .i64 a, .int .i64 b] w fun e w' => e = .returned (.bool (decide (a ≤ n ∧ n ≤ b))) ∧ w' = w := by
  by_cases h : a ≤ n
  · have e1 : decide (a ≤ n) = true := by simpa using h
    go_enter Tryz.func124, Tryz.ntmps124
    go_wp2
    go_ret
    exact ⟨by simp [h], rfl⟩
  · have e1 : decide (a ≤ n) = false := by simpa using h
    go_enter Tryz.func124, Tryz.ntmps124
    go_wp2
    go_ret
    exact ⟨by simp, rfl⟩
theorem from_any {w : World} (k : Int) : Calls Tryz.prog 91 #[.int .i64 k] w fun e w' => e = .returned (.bool (decide (k = 1 ∨ k = 14))) ∧ w' = w := by
  by_cases h1 : k = 1
  · subst h1
    go_enter Tryz.func91, Tryz.ntmps91
    go_wp2
    go_ret
    exact ⟨by simp, rfl⟩
  have e1 : (k == 1) = false := by simpa using h1
  go_enter Tryz.func91, Tryz.ntmps91
  go_wp2
  go_ret
  exact ⟨by simp [h1]; rfl, rfl⟩
theorem to_any {w : World} (k : Int) : Calls Tryz.prog 92 #[.int .i64 k] w fun e w' => e = .returned (.bool (decide (k = 2 ∨ k = 3 ∨ k = 15))) ∧ w' = w := by
  by_cases h1 : k = 2
  · subst h1
    go_enter Tryz.func92, Tryz.ntmps92
    go_wp2
    go_ret
    exact ⟨by simp, rfl⟩
  have e1 : (k == 2) = false := by simpa using h1
  by_cases h2 : k = 3
  · subst h2
    go_enter Tryz.func92, Tryz.ntmps92
    go_wp2
    go_ret
    exact ⟨by simp, rfl⟩
  have e2 : (k == 3) = false := by simpa using h2
  go_enter Tryz.func92, Tryz.ntmps92
  go_wp2
  go_ret
  exact ⟨by simp [h1, h2]; rfl, rfl⟩
theorem isEnd_any {w : World} (n who : Int) (c : Bool) (hn : -9223372036854775808 < n) (hn2 : n ≤ 9223372036854775807) : Calls Tryz.prog 90 #[.int .i64 n, .int .i64 who, .bool c] w fun e w' => e = .returned (.bool (if c then decide (0 ≤ who ∧ who ≤ 7) else decide (0 ≤ who ∧ who ≤ n - 1))) ∧ w' = w := by
  cases c
  · go_enter Tryz.func90, Tryz.ntmps90
    go_wp2_with (go_at_call 124; refine (within_any _ _ _).mono ?_; rintro e w' ⟨rfl, rfl⟩)
    go_ret
    exact ⟨rfl, rfl⟩
  · go_enter Tryz.func90, Tryz.ntmps90
    go_wp2_with (go_at_call 124; refine (within_any _ _ _).mono ?_; rintro e w' ⟨rfl, rfl⟩)
    go_ret
    exact ⟨rfl, rfl⟩
end Go.Proofs.YtdhkdniddjnigaaGreatDoor

namespace Go.Proofs.YtdhkdniddjnigaaGreatDoor
open Go.RowKit
set_option linter.unusedVariables false

def fldN : List (List UInt8) := [[], [81, 79], [86, 75, 81, 82], [86, 81], [86, 75, 67, 69], [86, 75], [86, 75, 67], [86], [86, 67, 78, 71], [86, 67, 71], [86, 76], [86, 67, 76, 72, 71], [86, 75, 67], [86, 67, 71], [75, 81, 79], [75, 81, 82]]
def fldS (i : Nat) : ByteArray := ⟨(fldN.getD i []).toArray⟩
/-- The table of fields, as the program's text lays it. -/
structure Fld (w : World) : Prop where
  lt : 2 < w.heap.size
  cell : ∀ i, i < 16 → w.cell? ⟨2, i, none⟩ = some (.string (fldS i))
theorem Fld.below {w w' : World} (h : Fld w) (hb : Below w.heap.size w w') : Fld w' :=
  ⟨Nat.lt_of_lt_of_le h.lt hb.size, fun i hi => cell_under hb h.lt (h.cell i hi)⟩

theorem hasCargo_any {w : World} {b : Nat} {k : Int} {v : Bool} (h0 : w.cell? ⟨b, 0, none⟩ = some (.int .i64 k)) (h9 : w.cell? ⟨b, 9, none⟩ = some (.bool v)) : Calls Tryz.prog 167 #[.pointer (some ⟨b, 0, none⟩)] w fun e w' => e = .returned (.bool (decide (k ≠ 11) || v)) ∧ w' = w := by
  by_cases hk : k = 11
  · subst hk
    go_enter Tryz.func167, Tryz.ntmps167
    go_wp2
    go_ret
    exact ⟨by simp, rfl⟩
  · have e1 : (k != 11) = true := by simpa using hk
    go_enter Tryz.func167, Tryz.ntmps167
    go_wp2
    go_ret
    exact ⟨by simp [hk], rfl⟩
/-- Is it one of the letters of its kind? -/
def inK (k : Nat) (r : Nat) : Bool := decide (0 ≤ Lib.indexByte (fldN.getD k []) r.toUInt8)
set_option maxRecDepth 100000 in
theorem has74_any {w : World} {b k : Nat} {r : Nat} {v : Bool} (hF : Fld w) (hk : k < 16) (hr : r < 128) (h0 : w.cell? ⟨b, 0, none⟩ = some (.int .i64 (k : Int))) (h9 : w.cell? ⟨b, 9, none⟩ = some (.bool v)) : Calls Tryz.prog 125 #[.pointer (some ⟨b, 0, none⟩), .int .i32 (r : Int)] w fun e w' => e = .returned (.bool (inK k r && (decide (r ≠ 71) || (decide ((k : Int) ≠ 11) || v)))) ∧ Below w.heap.size w w' := by
  have c := hF.cell k hk
  have j1 : (k : Int) < 16 := by omega
  have C : Hid (∀ W, Calls Tryz.prog 166 #[.string (fldS k), .int .i32 (r : Int)] W fun e w' => e = .returned (.bool (inK k r)) ∧ w' = W) := hid (fun W => by
    refine (contains_any (fldS k) (r : Int) W (by omega) (by omega)).mono ?_
    rintro e w' ⟨rfl, rfl⟩
    exact ⟨rfl, rfl⟩)
  have HC := hid (hasCargo_any h0 h9)
  clear hF
  generalize inK k r = B at *
  cases B
  · go_enter Tryz.func125, Tryz.ntmps125
    go_wp2_with fail
    refine (C.out _).mono ?_
    rintro e w1 ⟨rfl, rfl⟩
    go_wp2
    go_ret
    exact ⟨rfl, Below.refl _ _⟩
  · by_cases h71 : r = 71
    · subst h71
      go_enter Tryz.func125, Tryz.ntmps125
      go_wp2_with fail
      refine (C.out _).mono ?_
      rintro e w1 ⟨rfl, rfl⟩
      go_wp2_with fail
      refine HC.out.mono ?_
      rintro e w1 ⟨rfl, rfl⟩
      go_wp2
      go_ret
      exact ⟨by simp, Below.refl _ _⟩
    · have e1 : ((r : Int) != 71) = true := by simp; omega
      have e2 : ¬ (r : Int) = 71 := by omega
      go_enter Tryz.func125, Tryz.ntmps125
      go_wp2_with fail
      refine (C.out _).mono ?_
      rintro e w1 ⟨rfl, rfl⟩
      go_wp2
      go_ret
      exact ⟨by simp [h71], Below.refl _ _⟩
end Go.Proofs.YtdhkdniddjnigaaGreatDoor

namespace Go.Proofs.YtdhkdniddjnigaaGreatDoor
open Go.RowKit
set_option linter.unusedVariables false

/-- A message. -/
structure Ms where
  k : Int
  f : Int
  t : Int
  v : Int
  n : Int
  c : Int
  o : Int
  l : Int
  q : Int
  h : Bool
  ok : Int
  onm : ByteArray
  otx : ByteArray
  on : Int
  om : Int
  rc : Int
  rn : Int
  ra : Option Addr
  rl : Nat
  rp : Nat
  ea : Option Addr
  el : Nat
  ep : Nat
  cf : Int
  cb : Int
  sa : Option Addr
  sl : Nat
  sp : Nat
  xa : Option Addr
  xl : Nat
  xp : Nat
def Ms.cells (m : Ms) : List Value := [.int .i64 m.k, .int .i64 m.f, .int .i64 m.t, .int .i64 m.v, .int .i64 m.n, .int .i64 m.c, .int .i64 m.o, .int .i64 m.l, .int .i64 m.q, .bool m.h, .int .i64 m.ok, .string m.onm, .string m.otx, .int .i64 m.on, .int .i64 m.om, .int .i64 m.rc, .int .i64 m.rn, .slice m.ra m.rl m.rp, .slice m.ea m.el m.ep, .int .i64 m.cf, .int .i64 m.cb, .slice m.sa m.sl m.sp, .slice m.xa m.xl m.xp]
/-- It lies here. -/
def MsAt (w : World) (b : Nat) (m : Ms) : Prop := ∀ j u, m.cells[j]? = some u → w.cell? ⟨b, j, none⟩ = some u
theorem MsAt.under {w w' : World} {b : Nat} {m : Ms} (h : MsAt w b m) (hb : Below w.heap.size w w') : MsAt w' b m := fun j u hu => by
  have h1 := h j u hu
  exact cell_under hb (World.block_lt_of_cell? _ _ h1) h1
theorem zeroV {w : World} {b : Nat} {m : Ms} (h : MsAt w b m) : Calls Tryz.prog 128 #[.pointer (some ⟨b, 0, none⟩), .int .i32 86] w fun e w' => e = .returned (.bool (m.v == 0)) ∧ w' = w := by
  have c : w.cell? ⟨b, 3, none⟩ = some (.int .i64 m.v) := h 3 _ rfl
  clear h
  go_enter Tryz.func128, Tryz.ntmps128
  go_wp2
  go_ret
  exact ⟨rfl, rfl⟩
theorem zeroK {w : World} {b : Nat} {m : Ms} (h : MsAt w b m) : Calls Tryz.prog 128 #[.pointer (some ⟨b, 0, none⟩), .int .i32 75] w fun e w' => e = .returned (.bool (m.n == 0)) ∧ w' = w := by
  have c : w.cell? ⟨b, 4, none⟩ = some (.int .i64 m.n) := h 4 _ rfl
  clear h
  go_enter Tryz.func128, Tryz.ntmps128
  go_wp2
  go_ret
  exact ⟨rfl, rfl⟩
theorem zeroC {w : World} {b : Nat} {m : Ms} (h : MsAt w b m) : Calls Tryz.prog 128 #[.pointer (some ⟨b, 0, none⟩), .int .i32 67] w fun e w' => e = .returned (.bool (m.c == 0)) ∧ w' = w := by
  have c : w.cell? ⟨b, 5, none⟩ = some (.int .i64 m.c) := h 5 _ rfl
  clear h
  go_enter Tryz.func128, Tryz.ntmps128
  go_wp2
  go_ret
  exact ⟨rfl, rfl⟩
theorem zeroN {w : World} {b : Nat} {m : Ms} (h : MsAt w b m) : Calls Tryz.prog 128 #[.pointer (some ⟨b, 0, none⟩), .int .i32 78] w fun e w' => e = .returned (.bool (m.o == 0)) ∧ w' = w := by
  have c : w.cell? ⟨b, 6, none⟩ = some (.int .i64 m.o) := h 6 _ rfl
  clear h
  go_enter Tryz.func128, Tryz.ntmps128
  go_wp2
  go_ret
  exact ⟨rfl, rfl⟩
theorem zeroL {w : World} {b : Nat} {m : Ms} (h : MsAt w b m) : Calls Tryz.prog 128 #[.pointer (some ⟨b, 0, none⟩), .int .i32 76] w fun e w' => e = .returned (.bool (m.l == 0)) ∧ w' = w := by
  have c : w.cell? ⟨b, 7, none⟩ = some (.int .i64 m.l) := h 7 _ rfl
  clear h
  go_enter Tryz.func128, Tryz.ntmps128
  go_wp2
  go_ret
  exact ⟨rfl, rfl⟩
theorem zeroQ {w : World} {b : Nat} {m : Ms} (h : MsAt w b m) : Calls Tryz.prog 128 #[.pointer (some ⟨b, 0, none⟩), .int .i32 81] w fun e w' => e = .returned (.bool (m.q == 0)) ∧ w' = w := by
  have c : w.cell? ⟨b, 8, none⟩ = some (.int .i64 m.q) := h 8 _ rfl
  clear h
  go_enter Tryz.func128, Tryz.ntmps128
  go_wp2
  go_ret
  exact ⟨rfl, rfl⟩
theorem zeroH {w : World} {b : Nat} {m : Ms} (h : MsAt w b m) : Calls Tryz.prog 128 #[.pointer (some ⟨b, 0, none⟩), .int .i32 72] w fun e w' => e = .returned (.bool (!m.h)) ∧ w' = w := by
  have c : w.cell? ⟨b, 9, none⟩ = some (.bool m.h) := h 9 _ rfl
  clear h
  go_enter Tryz.func128, Tryz.ntmps128
  go_wp2
  go_ret
  exact ⟨rfl, rfl⟩
theorem zeroE {w : World} {b : Nat} {m : Ms} (h : MsAt w b m) : Calls Tryz.prog 128 #[.pointer (some ⟨b, 0, none⟩), .int .i32 69] w fun e w' => e = .returned (.bool ((m.el : Int) == 0)) ∧ w' = w := by
  have c : w.cell? ⟨b, 18, none⟩ = some (.slice m.ea m.el m.ep) := h 18 _ rfl
  clear h
  go_enter Tryz.func128, Tryz.ntmps128
  go_wp2
  go_ret
  exact ⟨by simp, rfl⟩
end Go.Proofs.YtdhkdniddjnigaaGreatDoor

namespace Go.Proofs.YtdhkdniddjnigaaGreatDoor
open Go.RowKit
set_option linter.unusedVariables false

def lstK (k : Int) : Int := if k = 4 then 1 else 0
theorem least_any {w : World} (k : Int) : Calls Tryz.prog 168 #[.int .i64 k] w fun e w' => e = .returned (.int .i64 (lstK k)) ∧ w' = w := by
  by_cases h : k = 4
  · subst h
    go_enter Tryz.func168, Tryz.ntmps168
    go_wp2
    go_ret
    exact ⟨by simp [lstK], rfl⟩
  · have e1 : (k == 4) = false := by simpa using h
    go_enter Tryz.func168, Tryz.ntmps168
    go_wp2
    go_ret
    exact ⟨by simp [lstK, h], rfl⟩
def inR (n a b : Int) : Bool := decide (a ≤ n ∧ n ≤ b)
theorem within_b {w : World} (n a b : Int) : Calls Tryz.prog 124 #[.int .i64 n, .int .i64 a, .int .i64 b] w fun e w' => e = .returned (.bool (inR n a b)) ∧ w' = w := within_any n a b
theorem mayV {w : World} {b : Nat} {m : Ms} (h : MsAt w b m) : Calls Tryz.prog 126 #[.pointer (some ⟨b, 0, none⟩), .int .i32 86] w fun e w' => e = .returned (.bool (inR m.v 0 1099511627776)) ∧ w' = w := by
  have c : w.cell? ⟨b, 3, none⟩ = some (.int .i64 m.v) := h 3 _ rfl
  clear h
  go_enter Tryz.func126, Tryz.ntmps126
  go_wp2_with fail
  refine (within_b _ _ _).mono ?_
  rintro e w' ⟨rfl, rfl⟩
  go_wp2
  go_ret
  exact ⟨rfl, rfl⟩
theorem mayC {w : World} {b : Nat} {m : Ms} (h : MsAt w b m) : Calls Tryz.prog 126 #[.pointer (some ⟨b, 0, none⟩), .int .i32 67] w fun e w' => e = .returned (.bool (inR m.c 0 1099511627776)) ∧ w' = w := by
  have c : w.cell? ⟨b, 5, none⟩ = some (.int .i64 m.c) := h 5 _ rfl
  clear h
  go_enter Tryz.func126, Tryz.ntmps126
  go_wp2_with fail
  refine (within_b _ _ _).mono ?_
  rintro e w' ⟨rfl, rfl⟩
  go_wp2
  go_ret
  exact ⟨rfl, rfl⟩
theorem mayL {w : World} {b : Nat} {m : Ms} (h : MsAt w b m) : Calls Tryz.prog 126 #[.pointer (some ⟨b, 0, none⟩), .int .i32 76] w fun e w' => e = .returned (.bool (inR m.l 1 1099511627776)) ∧ w' = w := by
  have c : w.cell? ⟨b, 7, none⟩ = some (.int .i64 m.l) := h 7 _ rfl
  clear h
  go_enter Tryz.func126, Tryz.ntmps126
  go_wp2_with fail
  refine (within_b _ _ _).mono ?_
  rintro e w' ⟨rfl, rfl⟩
  go_wp2
  go_ret
  exact ⟨rfl, rfl⟩
theorem mayQ {w : World} {b : Nat} {m : Ms} (h : MsAt w b m) : Calls Tryz.prog 126 #[.pointer (some ⟨b, 0, none⟩), .int .i32 81] w fun e w' => e = .returned (.bool (inR m.q 1 1099511627776)) ∧ w' = w := by
  have c : w.cell? ⟨b, 8, none⟩ = some (.int .i64 m.q) := h 8 _ rfl
  clear h
  go_enter Tryz.func126, Tryz.ntmps126
  go_wp2_with fail
  refine (within_b _ _ _).mono ?_
  rintro e w' ⟨rfl, rfl⟩
  go_wp2
  go_ret
  exact ⟨rfl, rfl⟩
theorem mayN {w : World} {b : Nat} {m : Ms} (h : MsAt w b m) : Calls Tryz.prog 126 #[.pointer (some ⟨b, 0, none⟩), .int .i32 78] w fun e w' => e = .returned (.bool (inR m.o 0 m.v)) ∧ Below w.heap.size w w' := by
  have c0 : w.cell? ⟨b, 6, none⟩ = some (.int .i64 m.o) := h 6 _ rfl
  have c1 : w.cell? ⟨b, 3, none⟩ = some (.int .i64 m.v) := h 3 _ rfl
  have A0 := hid (All.came w)
  have SS : Hid (∀ W, All [inC w] W → W.cell? ⟨b, 6, none⟩ = some (.int .i64 m.o) ∧ W.cell? ⟨b, 3, none⟩ = some (.int .i64 m.v)) := hid (fun W hW => by
    have hm := h.under (hW.into (w0 := w) (by simp))
    exact ⟨hm 6 _ rfl, hm 3 _ rfl⟩)
  have p0 := hid (SS.out _ A0.out)
  clear h
  go_enter Tryz.func126, Tryz.ntmps126
  go_wp2_with fail
  go_region_held3 (fun W => W.cell? ⟨b, 6, none⟩ = some (.int .i64 m.o) ∧ W.cell? ⟨b, 3, none⟩ = some (.int .i64 m.v)) (first | exact p0.out | exact p1.out)
    ((go_at_call 124; refine (within_b _ _ _).mono ?_; rintro e w1 ⟨rfl, hw1⟩; have A1 := hid (A0.out.drew); rw [← hw1] at A1; have p1 := hid (SS.out _ A1.out); clear hw1))
  clear p0 p1 c0 c1
  go_wp2
  go_ret
  exact ⟨rfl, A1.out.into (w0 := w) (by simp)⟩
theorem mayK {w : World} {b : Nat} {m : Ms} (h : MsAt w b m) : Calls Tryz.prog 126 #[.pointer (some ⟨b, 0, none⟩), .int .i32 75] w fun e w' => e = .returned (.bool (inR m.n (lstK m.k) 1099511627776)) ∧ Below w.heap.size w w' := by
  have c0 : w.cell? ⟨b, 4, none⟩ = some (.int .i64 m.n) := h 4 _ rfl
  have c1 : w.cell? ⟨b, 0, none⟩ = some (.int .i64 m.k) := h 0 _ rfl
  have A0 := hid (All.came w)
  have SS : Hid (∀ W, All [inC w] W → W.cell? ⟨b, 4, none⟩ = some (.int .i64 m.n) ∧ W.cell? ⟨b, 0, none⟩ = some (.int .i64 m.k)) := hid (fun W hW => by
    have hm := h.under (hW.into (w0 := w) (by simp))
    exact ⟨hm 4 _ rfl, hm 0 _ rfl⟩)
  have p0 := hid (SS.out _ A0.out)
  clear h
  go_enter Tryz.func126, Tryz.ntmps126
  go_wp2_with fail
  go_region_held3 (fun W => W.cell? ⟨b, 4, none⟩ = some (.int .i64 m.n) ∧ W.cell? ⟨b, 0, none⟩ = some (.int .i64 m.k)) (first | exact p0.out | exact p1.out | exact p2.out)
    (first
      | (go_at_call 168; refine (least_any _).mono ?_; rintro e w1 ⟨rfl, hw1⟩; have A1 := hid (A0.out.drew); rw [← hw1] at A1; have p1 := hid (SS.out _ A1.out); clear hw1)
      | (go_at_call 124; refine (within_b _ _ _).mono ?_; rintro e w2 ⟨rfl, hw2⟩; have A2 := hid (A1.out); rw [← hw2] at A2; have p2 := hid (SS.out _ A2.out); clear hw2))
  clear p0 p1 p2 c0 c1
  go_wp2
  go_ret
  exact ⟨rfl, A2.out.into (w0 := w) (by simp)⟩
end Go.Proofs.YtdhkdniddjnigaaGreatDoor

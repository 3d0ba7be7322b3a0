import Derived.Test.YthoppemjfdnibaaGreatDoorJ16
namespace Go.Proofs.YthoppemjfdnibaaGreatDoor
open Go.RowKit
set_option linter.unusedVariables false

def fldN : List (List UInt8) := [[], [81, 79], [86, 75, 81, 82], [86, 81], [86, 75, 67, 69], [86, 75], [86, 75, 67], [86], [86, 67, 78, 71], [86, 67, 71], [86, 76], [86, 67, 76, 72, 71], [86, 75, 67], [86, 67, 71], [75, 81, 79], [75, 81, 82]]
def fldS (i : Nat) : ByteArray := ⟨(fldN.getD i []).toArray⟩
/-- The table of fields, as the program's text lays it. -/
structure Fld (w : World) : Prop where
  lt : 0 < w.heap.size
  cell : ∀ i, i < 16 → w.cell? ⟨0, i, none⟩ = some (.string (fldS i))
theorem Fld.below {w w' : World} (h : Fld w) (hb : Below w.heap.size w w') : Fld w' :=
  ⟨Nat.lt_of_lt_of_le h.lt hb.size, fun i hi => cell_under hb h.lt (h.cell i hi)⟩

theorem hasCargo_any {w : World} {b : Nat} {k : Int} {v : Bool} (h0 : w.cell? ⟨b, 0, none⟩ = some (.int .i64 k)) (h9 : w.cell? ⟨b, 9, none⟩ = some (.bool v)) : Calls Tryz.prog 102 #[.pointer (some ⟨b, 0, none⟩)] w fun e w' => e = .returned (.bool (decide (k ≠ 11) || v)) ∧ w' = w := by
  by_cases hk : k = 11
  · subst hk
    go_enter Tryz.func102, Tryz.ntmps102
    go_wp2
    go_ret
    exact ⟨by simp, rfl⟩
  · have e1 : (k != 11) = true := by simpa using hk
    go_enter Tryz.func102, Tryz.ntmps102
    go_wp2
    go_ret
    exact ⟨by simp [hk], rfl⟩
/-- Is it one of the letters of its kind? -/
def inK (k : Nat) (r : Nat) : Bool := decide (0 ≤ Lib.indexByte (fldN.getD k []) r.toUInt8)
set_option maxRecDepth 100000 in
theorem has74_any {w : World} {b k : Nat} {r : Nat} {v : Bool} (hF : Fld w) (hk : k < 16) (hr : r < 128) (h0 : w.cell? ⟨b, 0, none⟩ = some (.int .i64 (k : Int))) (h9 : w.cell? ⟨b, 9, none⟩ = some (.bool v)) : Calls Tryz.prog 74 #[.pointer (some ⟨b, 0, none⟩), .int .i32 (r : Int)] w fun e w' => e = .returned (.bool (inK k r && (decide (r ≠ 71) || (decide ((k : Int) ≠ 11) || v)))) ∧ Below w.heap.size w w' := by
  have c := hF.cell k hk
  have j1 : (k : Int) < 16 := by omega
  have C : Hid (∀ W, Calls Tryz.prog 101 #[.string (fldS k), .int .i32 (r : Int)] W fun e w' => e = .returned (.bool (inK k r)) ∧ w' = W) := hid (fun W => by
    refine (contains_any (fldS k) (r : Int) W (by omega) (by omega)).mono ?_
    rintro e w' ⟨rfl, rfl⟩
    exact ⟨rfl, rfl⟩)
  have HC := hid (hasCargo_any h0 h9)
  clear hF
  generalize inK k r = B at *
  cases B
  · go_enter Tryz.func74, Tryz.ntmps74
    go_wp2_with fail
    refine (C.out _).mono ?_
    rintro e w1 ⟨rfl, rfl⟩
    go_wp2
    go_ret
    exact ⟨rfl, Below.refl _ _⟩
  · by_cases h71 : r = 71
    · subst h71
      go_enter Tryz.func74, Tryz.ntmps74
      go_wp2_with fail
      refine (C.out _).mono ?_
      rintro e w1 ⟨rfl, rfl⟩
      go_wp2_with fail
      refine HC.out.mono ?_
      rintro e w1 ⟨rfl, rfl⟩
      go_wp2
      go_ret
      exact ⟨by simp, Below.refl _ _⟩
    · have e1 : ((r : Int) != 71) = true := by simp; omega
      have e2 : ¬ (r : Int) = 71 := by omega
      go_enter Tryz.func74, Tryz.ntmps74
      go_wp2_with fail
      refine (C.out _).mono ?_
      rintro e w1 ⟨rfl, rfl⟩
      go_wp2
      go_ret
      exact ⟨by simp [h71], Below.refl _ _⟩
end Go.Proofs.YthoppemjfdnibaaGreatDoor

namespace Go.Proofs.YthoppemjfdnibaaGreatDoor
open Go.RowKit
set_option linter.unusedVariables false

/-- A message. -/
structure Ms where
  k : Int
  f : Int
  t : Int
  v : Int
  n : Int
  c : Int
  o : Int
  l : Int
  q : Int
  h : Bool
  ok : Int
  onm : ByteArray
  otx : ByteArray
  on : Int
  om : Int
  rc : Int
  rn : Int
  ra : Option Addr
  rl : Nat
  rp : Nat
  ea : Option Addr
  el : Nat
  ep : Nat
  cf : Int
  cb : Int
  sa : Option Addr
  sl : Nat
  sp : Nat
  xa : Option Addr
  xl : Nat
  xp : Nat
def Ms.cells (m : Ms) : List Value := [.int .i64 m.k, .int .i64 m.f, .int .i64 m.t, .int .i64 m.v, .int .i64 m.n, .int .i64 m.c, .int .i64 m.o, .int .i64 m.l, .int .i64 m.q, .bool m.h, .int .i64 m.ok, .string m.onm, .string m.otx, .int .i64 m.on, .int .i64 m.om, .int .i64 m.rc, .int .i64 m.rn, .slice m.ra m.rl m.rp, .slice m.ea m.el m.ep, .int .i64 m.cf, .int .i64 m.cb, .slice m.sa m.sl m.sp, .slice m.xa m.xl m.xp]
/-- It lies here. -/
def MsAt (w : World) (b : Nat) (m : Ms) : Prop := ∀ j u, m.cells[j]? = some u → w.cell? ⟨b, j, none⟩ = some u
theorem MsAt.under {w w' : World} {b : Nat} {m : Ms} (h : MsAt w b m) (hb : Below w.heap.size w w') : MsAt w' b m := fun j u hu => by
  have h1 := h j u hu
  exact cell_under hb (World.block_lt_of_cell? _ _ h1) h1
theorem zeroV {w : World} {b : Nat} {m : Ms} (h : MsAt w b m) : Calls Tryz.prog 77 #[.pointer (some ⟨b, 0, none⟩), .int .i32 86] w fun e w' => e = .returned (.bool (m.v == 0)) ∧ w' = w := by
  have c : w.cell? ⟨b, 3, none⟩ = some (.int .i64 m.v) := h 3 _ rfl
  clear h
  go_enter Tryz.func77, Tryz.ntmps77
  go_wp2
  go_ret
  exact ⟨rfl, rfl⟩
theorem zeroK {w : World} {b : Nat} {m : Ms} (h : MsAt w b m) : Calls Tryz.prog 77 #[.pointer (some ⟨b, 0, none⟩), .int .i32 75] w fun e w' => e = .returned (.bool (m.n == 0)) ∧ w' = w := by
  have c : w.cell? ⟨b, 4, none⟩ = some (.int .i64 m.n) := h 4 _ rfl
  clear h
  go_enter Tryz.func77, Tryz.ntmps77
  go_wp2
  go_ret
  exact ⟨rfl, rfl⟩
theorem zeroC {w : World} {b : Nat} {m : Ms} (h : MsAt w b m) : Calls Tryz.prog 77 #[.pointer (some ⟨b, 0, none⟩), .int .i32 67] w fun e w' => e = .returned (.bool (m.c == 0)) ∧ w' = w := by
  have c : w.cell? ⟨b, 5, none⟩ = some (.int .i64 m.c) := h 5 _ rfl
  clear h
  go_enter Tryz.func77, Tryz.ntmps77
  go_wp2
  go_ret
  exact ⟨rfl, rfl⟩
theorem zeroN {w : World} {b : Nat} {m : Ms} (h : MsAt w b m) : Calls Tryz.prog 77 #[.pointer (some ⟨b, 0, none⟩), .int .i32 78] w fun e w' => e = .returned (.bool (m.o == 0)) ∧ w' = w := by
  have c : w.cell? ⟨b, 6, none⟩ = some (.int .i64 m.o) := h 6 _ rfl
  clear h
  go_enter Tryz.func77, Tryz.ntmps77
  go_wp2
  go_ret
  exact ⟨rfl, rfl⟩
theorem zeroL {w : World} {b : Nat} {m : Ms} (h : MsAt w b m) : Calls Tryz.prog 77 #[.pointer (some ⟨b, 0, none⟩), .int .i32 76] w fun e w' => e = .returned (.bool (m.l == 0)) ∧ w' = w := by
  have c : w.cell? ⟨b, 7, none⟩ = some (.int .i64 m.l) := h 7 _ rfl
  clear h
  go_enter Tryz.func77, Tryz.ntmps77
  go_wp2
  go_ret
  exact ⟨rfl, rfl⟩
theorem zeroQ {w : World} {b : Nat} {m : Ms} (h : MsAt w b m) : Calls Tryz.prog 77 #[.pointer (some ⟨b, 0, none⟩), .int .i32 81] w fun e w' => e = .returned (.bool (m.q == 0)) ∧ w' = w := by
  have c : w.cell? ⟨b, 8, none⟩ = some (.int .i64 m.q) := h 8 _ rfl
  clear h
  go_enter Tryz.func77, Tryz.ntmps77
  go_wp2
  go_ret
  exact ⟨rfl, rfl⟩
theorem zeroH {w : World} {b : Nat} {m : Ms} (h : MsAt w b m) : Calls Tryz.prog 77 #[.pointer (some ⟨b, 0, none⟩), .int .i32 72] w fun e w' => e = .returned (.bool (!m.h)) ∧ w' = w := by
  have c : w.cell? ⟨b, 9, none⟩ = some (.bool m.h) := h 9 _ rfl
  clear h
  go_enter Tryz.func77, Tryz.ntmps77
  go_wp2
  go_ret
  exact ⟨rfl, rfl⟩
theorem zeroE {w : World} {b : Nat} {m : Ms} (h : MsAt w b m) : Calls Tryz.prog 77 #[.pointer (some ⟨b, 0, none⟩), .int .i32 69] w fun e w' => e = .returned (.bool ((m.el : Int) == 0)) ∧ w' = w := by
  have c : w.cell? ⟨b, 18, none⟩ = some (.slice m.ea m.el m.ep) := h 18 _ rfl
  clear h
  go_enter Tryz.func77, Tryz.ntmps77
  go_wp2
  go_ret
  exact ⟨by simp, rfl⟩
theorem zeroR0 {w : World} {b : Nat} {m : Ms} (h : MsAt w b m) (h1 : m.rc = 0) (h2 : m.rn = 0) (h3 : m.rl = 0) : Calls Tryz.prog 77 #[.pointer (some ⟨b, 0, none⟩), .int .i32 82] w fun e w' => e = .returned (.bool true) ∧ w' = w := by
  have c1 : w.cell? ⟨b, 15, none⟩ = some (.int .i64 0) := by rw [← h1]; exact h 15 _ rfl
  have c2 : w.cell? ⟨b, 16, none⟩ = some (.int .i64 0) := by rw [← h2]; exact h 16 _ rfl
  have c3 : w.cell? ⟨b, 17, none⟩ = some (.slice m.ra 0 m.rp) := by rw [← h3]; exact h 17 _ rfl
  clear h h1 h2 h3
  go_enter Tryz.func77, Tryz.ntmps77
  go_wp2
  go_ret
  exact ⟨rfl, rfl⟩
theorem zeroG0 {w : World} {b : Nat} {m : Ms} (h : MsAt w b m) (h1 : m.cf = 0) (h2 : m.cb = 0) (h3 : m.sl = 0) (h4 : m.xl = 0) : Calls Tryz.prog 77 #[.pointer (some ⟨b, 0, none⟩), .int .i32 71] w fun e w' => e = .returned (.bool true) ∧ w' = w := by
  have c1 : w.cell? ⟨b, 19, none⟩ = some (.int .i64 0) := by rw [← h1]; exact h 19 _ rfl
  have c2 : w.cell? ⟨b, 20, none⟩ = some (.int .i64 0) := by rw [← h2]; exact h 20 _ rfl
  have c3 : w.cell? ⟨b, 21, none⟩ = some (.slice m.sa 0 m.sp) := by rw [← h3]; exact h 21 _ rfl
  have c4 : w.cell? ⟨b, 22, none⟩ = some (.slice m.xa 0 m.xp) := by rw [← h4]; exact h 22 _ rfl
  clear h h1 h2 h3 h4
  go_enter Tryz.func77, Tryz.ntmps77
  go_wp2
  go_ret
  exact ⟨rfl, rfl⟩
theorem zeroO0 {w : World} {b : Nat} {m : Ms} (h : MsAt w b m) (h1 : m.ok = 0) (h2 : m.onm = ⟨#[]⟩) (h3 : m.otx = ⟨#[]⟩) (h4 : m.on = 0) (h5 : m.om = 0) : Calls Tryz.prog 77 #[.pointer (some ⟨b, 0, none⟩), .int .i32 79] w fun e w' => e = .returned (.bool true) ∧ w' = w := by
  have c1 : w.cell? ⟨b, 10, none⟩ = some (.int .i64 0) := by rw [← h1]; exact h 10 _ rfl
  have c2 : w.cell? ⟨b, 11, none⟩ = some (.string ⟨#[]⟩) := by rw [← h2]; exact h 11 _ rfl
  have c3 : w.cell? ⟨b, 12, none⟩ = some (.string ⟨#[]⟩) := by rw [← h3]; exact h 12 _ rfl
  have c4 : w.cell? ⟨b, 13, none⟩ = some (.int .i64 0) := by rw [← h4]; exact h 13 _ rfl
  have c5 : w.cell? ⟨b, 14, none⟩ = some (.int .i64 0) := by rw [← h5]; exact h 14 _ rfl
  clear h h1 h2 h3 h4 h5
  go_enter Tryz.func77, Tryz.ntmps77
  go_wp2
  go_ret
  exact ⟨rfl, rfl⟩
end Go.Proofs.YthoppemjfdnibaaGreatDoor

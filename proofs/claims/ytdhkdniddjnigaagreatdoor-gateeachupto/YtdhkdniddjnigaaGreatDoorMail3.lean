import Derived.Test.YtdhkdniddjnigaaGreatDoorMail2
namespace Go.Proofs.YtdhkdniddjnigaaGreatDoor
open Go.RowKit
set_option linter.unusedVariables false

/-- A message. -/
structure Ms where
  k : Int
  f : Int
  t : Int
  v : Int
  n : Int
  c : Int
  o : Int
  l : Int
  q : Int
  h : Bool
  ok : Int
  onm : ByteArray
  otx : ByteArray
  on : Int
  om : Int
  rc : Int
  rn : Int
  ra : Option Addr
  rl : Nat
  rp : Nat
  ea : Option Addr
  el : Nat
  ep : Nat
  cf : Int
  cb : Int
  sa : Option Addr
  sl : Nat
  sp : Nat
  xa : Option Addr
  xl : Nat
  xp : Nat
def Ms.cells (m : Ms) : List Value := [.int .i64 m.k, .int .i64 m.f, .int .i64 m.t, .int .i64 m.v, .int .i64 m.n, .int .i64 m.c, .int .i64 m.o, .int .i64 m.l, .int .i64 m.q, .bool m.h, .int .i64 m.ok, .string m.onm, .string m.otx, .int .i64 m.on, .int .i64 m.om, .int .i64 m.rc, .int .i64 m.rn, .slice m.ra m.rl m.rp, .slice m.ea m.el m.ep, .int .i64 m.cf, .int .i64 m.cb, .slice m.sa m.sl m.sp, .slice m.xa m.xl m.xp]
/-- It lies here. -/
def MsAt (w : World) (b : Nat) (m : Ms) : Prop := ∀ j u, m.cells[j]? = some u → w.cell? ⟨b, j, none⟩ = some u
theorem MsAt.under {w w' : World} {b : Nat} {m : Ms} (h : MsAt w b m) (hb : Below w.heap.size w w') : MsAt w' b m := fun j u hu => by
  have h1 := h j u hu
  exact cell_under hb (World.block_lt_of_cell? _ _ h1) h1
theorem zeroV {w : World} {b : Nat} {m : Ms} (h : MsAt w b m) : Calls Tryz.prog 128 #[.pointer (some ⟨b, 0, none⟩), .int .i32 86] w fun e w' => e = .returned (.bool (m.v == 0)) ∧ w' = w := by
  have c : w.cell? ⟨b, 3, none⟩ = some (.int .i64 m.v) := h 3 _ rfl
  clear h
  go_enter Tryz.func128, Tryz.ntmps128
  go_wp2
  go_ret
  exact ⟨rfl, rfl⟩
theorem zeroK {w : World} {b : Nat} {m : Ms} (h : MsAt w b m) : Calls Tryz.prog 128 #[.pointer (some ⟨b, 0, none⟩), .int .i32 75] w fun e w' => e = .returned (.bool (m.n == 0)) ∧ w' = w := by
  have c : w.cell? ⟨b, 4, none⟩ = some (.int .i64 m.n) := h 4 _ rfl
  clear h
  go_enter Tryz.func128, Tryz.ntmps128
  go_wp2
  go_ret
  exact ⟨rfl, rfl⟩
theorem zeroC {w : World} {b : Nat} {m : Ms} (h : MsAt w b m) : Calls Tryz.prog 128 #[.pointer (some ⟨b, 0, none⟩), .int .i32 67] w fun e w' => e = .returned (.bool (m.c == 0)) ∧ w' = w := by
  have c : w.cell? ⟨b, 5, none⟩ = some (.int .i64 m.c) := h 5 _ rfl
  clear h
  go_enter Tryz.func128, Tryz.ntmps128
  go_wp2
  go_ret
  exact ⟨rfl, rfl⟩
theorem zeroN {w : World} {b : Nat} {m : Ms} (h : MsAt w b m) : Calls Tryz.prog 128 #[.pointer (some ⟨b, 0, none⟩), .int .i32 78] w fun e w' => e = .returned (.bool (m.o == 0)) ∧ w' = w := by
  have c : w.cell? ⟨b, 6, none⟩ = some (.int .i64 m.o) := h 6 _ rfl
  clear h
  go_enter Tryz.func128, Tryz.ntmps128
  go_wp2
  go_ret
  exact ⟨rfl, rfl⟩
theorem zeroL {w : World} {b : Nat} {m : Ms} (h : MsAt w b m) : Calls Tryz.prog 128 #[.pointer (some ⟨b, 0, none⟩), .int .i32 76] w fun e w' => e = .returned (.bool (m.l == 0)) ∧ w' = w := by
  have c : w.cell? ⟨b, 7, none⟩ = some (.int .i64 m.l) := h 7 _ rfl
  clear h
  go_enter Tryz.func128, Tryz.ntmps128
  go_wp2
  go_ret
  exact ⟨rfl, rfl⟩
theorem zeroQ {w : World} {b : Nat} {m : Ms} (h : MsAt w b m) : Calls Tryz.prog 128 #[.pointer (some ⟨b, 0, none⟩), .int .i32 81] w fun e w' => e = .returned (.bool (m.q == 0)) ∧ w' = w := by
  have c : w.cell? ⟨b, 8, none⟩ = some (.int .i64 m.q) := h 8 _ rfl
  clear h
  go_enter Tryz.func128, Tryz.ntmps128
  go_wp2
  go_ret
  exact ⟨rfl, rfl⟩
theorem zeroH {w : World} {b : Nat} {m : Ms} (h : MsAt w b m) : Calls Tryz.prog 128 #[.pointer (some ⟨b, 0, none⟩), .int .i32 72] w fun e w' => e = .returned (.bool (!m.h)) ∧ w' = w := by
  have c : w.cell? ⟨b, 9, none⟩ = some (.bool m.h) := h 9 _ rfl
  clear h
  go_enter Tryz.func128, Tryz.ntmps128
  go_wp2
  go_ret
  exact ⟨rfl, rfl⟩
theorem zeroE {w : World} {b : Nat} {m : Ms} (h : MsAt w b m) : Calls Tryz.prog 128 #[.pointer (some ⟨b, 0, none⟩), .int .i32 69] w fun e w' => e = .returned (.bool ((m.el : Int) == 0)) ∧ w' = w := by
  have c : w.cell? ⟨b, 18, none⟩ = some (.slice m.ea m.el m.ep) := h 18 _ rfl
  clear h
  go_enter Tryz.func128, Tryz.ntmps128
  go_wp2
  go_ret
  exact ⟨by simp, rfl⟩
end Go.Proofs.YtdhkdniddjnigaaGreatDoor
